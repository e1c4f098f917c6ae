/-
  Where the iterator of package cut is between two operations, and what its writes make of that. No walk.
-/
import Derived.Test.YtlcpbkbojjpfaaaCut
namespace Go.Proofs.Ytlcpbkbojjpfaaa
open Go.RowKit
set_option linter.unusedVariables false

/-- A piece: where it lies, and what it has. -/
abbrev Xp := (Option Addr × Nat × Nat) × List UInt8
def hdVals (x : Xp) : Array Value := #[slV x.1]
/-- What the iterator writes between two rounds, but for new memory. -/
def ownC (g Bb : Nat) (v0 : Value) (s : List Xp) (k : Nat) : Prop := k = g ∨ k = Bb ∨ (s = [] ∧ v0.ownBlock = some k)
/-- What a round is told of a piece. -/
def ToldC (base P : Nat) (v0 : Value) (T : List UInt8) (pre : List Xp) (x : Xp) (W0 W1 : World) : Prop :=
  x.2 = pieceB P T pre.length ∧ x.1.2.1 = P ∧ W1.ownsRow base 5 1 (slV x.1) P (x.2.map byteV) ∧ ∀ k, (slV x.1).ownBlock = some k → (pre = [] ∧ v0.ownBlock = some k) ∨ W0.heap.size ≤ k
/-- What is left behind the last round. -/
def LeftC (g base P Z : Nat) (v0 : Value) (T : List UInt8) (xs : List Xp) (A W : World) : Prop :=
  xs.map (·.2) = piecesB P T ∧ ∃ v', CutHas W g base P Z v' (restB P T) ∧ ∀ k, v'.ownBlock = some k → (xs = [] ∧ v0.ownBlock = some k) ∨ A.heap.size ≤ k

structure AtC (g base P Z Bt Bb : Nat) (v0 : Value) (T : List UInt8) (F : Nat → Prop) (pre : List Xp) (A0 W : World) (q m : Nat) (LA : Option Addr) (lc nb : Nat) (BA : Option Addr) (bc : Nat) : Prop where
  told : pre.map (·.2) = piecesN P T pre.length
  here : pre.length * P + m = q
  all : q + nb = T.length
  short : m ≤ P
  cut : Whole W g 89 #[.int .i64 (P : Nat), .int .i64 (Z : Nat), .slice LA m lc]
  left : W.ownsRow base 5 1 (.slice LA m lc) m (((T.drop (pre.length * P)).take m).map byteV)
  blk : ∀ k, (Value.slice LA m lc).ownBlock = some k → (pre = [] ∧ v0.ownBlock = some k) ∨ A0.heap.size ≤ k
  ptr : Boxed W Bt 44 (.pointer (some ⟨g, 0, none⟩))
  src : Boxed W Bb 23 (.slice BA nb bc)
  rest : Sl W BA nb bc (T.drop q)
  far : ∀ ad, BA = some ad → 0 < nb → F ad.block
  spares : Spares (ownC g Bb v0 pre) A0 W
  base : base ≤ A0.heap.size

section
variable {g base P Z Bt Bb : Nat} {v0 : Value} {T : List UInt8} {F : Nat → Prop} {pre : List Xp} {A0 W : World} {q m lc nb bc : Nat} {LA BA : Option Addr}
theorem AtC.drew (h : AtC g base P Z Bt Bb v0 T F pre A0 W q m LA lc nb BA bc) : AtC g base P Z Bt Bb v0 T F pre A0 W.drew q m LA lc nb BA bc := by
  obtain ⟨h1, h2, h3, h4, h5, h6, h7, h8, h9, h10, h11, h12, h13⟩ := h
  exact ⟨h1, h2, h3, h4, h5, owned_same h6 fun _ _ => rfl, h7, h8, h9, h10.grow (grows_drew W), h11, h12.drew, h13⟩
theorem AtC.grow {W' : World} (h : AtC g base P Z Bt Bb v0 T F pre A0 W q m LA lc nb BA bc) (hg : Grows W W') : AtC g base P Z Bt Bb v0 T F pre A0 W' q m LA lc nb BA bc := by
  obtain ⟨h1, h2, h3, h4, h5, h6, h7, h8, h9, h10, h11, h12, h13⟩ := h
  exact ⟨h1, h2, h3, h4, (hg.block _ h5.lt).trans h5, owned_grow h6 hg, h7, (hg.block _ h8.lt).trans h8, (hg.block _ h9.lt).trans h9, h10.grow hg, h11, h12.trans (Spares.grows hg), h13⟩

/-- Bytes stay where their block does. -/
theorem Sl.kept {w w' : World} {A : Option Addr} {n c : Nat} {bs : List UInt8} (h : Sl w A n c bs) (hsz : w.heap.size ≤ w'.heap.size) (hk : 0 < n → ∀ ad, A = some ad → w'.heap[ad.block]? = w.heap[ad.block]?) : Sl w' A n c bs := by
  have hln := h.len
  refine ⟨⟨Row.len h.bytes, fun k v hv => ?_⟩, h.cap, h.bare⟩
  obtain ⟨ad, e, hb, hc⟩ := Row.spot h.bytes k v hv
  refine ⟨ad, e, Nat.lt_of_lt_of_le hb hsz, ?_⟩
  have hn : 0 < n := by
    rcases Nat.eq_zero_or_pos n with h0 | h0
    · obtain rfl : bs = [] := List.eq_nil_of_length_eq_zero (by omega)
      simp at hv
    · exact h0
  rw [World.cell?_of_block (w := w) (w' := w') (by rw [add_block]; exact hk hn ad e)]
  exact hc

/-- What has been taken out of b stands behind what was left; b is what is behind that. -/
theorem AtC.put {n : Nat} {ad : Addr} {W1 : World} {LA1 : Option Addr} {lc1 : Nat} (hF : ∀ k, F k → k ≠ g ∧ k ≠ Bb ∧ v0.ownBlock ≠ some k ∧ k < A0.heap.size) (hgb : g ≠ Bb ∧ g ≠ Bt ∧ Bb ≠ Bt ∧ Bt < A0.heap.size ∧ Bb < A0.heap.size ∧ v0.ownBlock ≠ some Bt ∧ v0.ownBlock ≠ some Bb ∧ v0.ownBlock ≠ some g)
    (h : AtC g base P Z Bt Bb v0 T F pre A0 W q m LA lc nb (some ad) bc) (hn0 : 0 < n) (hn : n ≤ nb) (hm : m + n ≤ P)
    (hown : W1.ownsRow base 5 1 (.slice LA1 (m + n) lc1) (m + n) (((T.drop (pre.length * P)).take m ++ (T.drop q).take n).map byteV)) (hg : Spares (fun k => (Value.slice LA m lc).ownBlock = some k) W W1)
    (hblk : (Value.slice LA1 (m + n) lc1).ownBlock = (Value.slice LA m lc).ownBlock ∨ ∃ j, (Value.slice LA1 (m + n) lc1).ownBlock = some j ∧ W.heap.size ≤ j) {BA1 : Option Addr} (hBA : BA1 = if bc = n then some ad else some (ad.add n)) :
    AtC g base P Z Bt Bb v0 T F pre A0 ((W1.setCell ⟨g, 2, none⟩ (.slice LA1 (m + n) lc1)).setCell ⟨Bb, 0, none⟩ (.slice BA1 (nb - n) (bc - n))) (q + n) (m + n) LA1 lc1 (nb - n) BA1 (bc - n) := by
  obtain ⟨h1, h2, h3, h4, h5, h6, h7, h8, h9, h10, h11, h12, h13⟩ := h
  obtain ⟨k1, k2, k3, k4, k5, k6, k7, k8⟩ := hgb
  have hA0 := h12.size
  have hF1 := hF _ (h11 ad rfl (by omega))
  -- the block of what was left is none of those
  have hlb : ∀ k, (Value.slice LA m lc).ownBlock = some k → k ≠ g ∧ k ≠ Bb ∧ k ≠ Bt ∧ k ≠ ad.block := fun k hk => by
    have e1 := owned_type h6 h5 (by decide)
    rcases h7 k hk with ⟨_, hv⟩ | hge
    · refine ⟨fun e => e1 (e ▸ hk), fun e => k7 (e ▸ hv), fun e => k6 (e ▸ hv), fun e => hF1.2.2.1 (e ▸ hv)⟩
    · exact ⟨fun e => e1 (e ▸ hk), by omega, by omega, by have := hF1.2.2.2; omega⟩
  have hsame : ∀ k, k < W.heap.size → (Value.slice LA m lc).ownBlock ≠ some k → W1.heap[k]? = W.heap[k]? := fun k hk hne => hg.same k hk hne
  have hnew : ∀ k, (Value.slice LA1 (m + n) lc1).ownBlock = some k → k ≠ g ∧ k ≠ Bb ∧ ((pre = [] ∧ v0.ownBlock = some k) ∨ A0.heap.size ≤ k) := fun k hk => by
    rcases hblk with e | ⟨j, e, hj⟩
    · rw [e] at hk
      exact ⟨(hlb k hk).1, (hlb k hk).2.1, h7 k hk⟩
    · rw [e] at hk
      injection hk with hk
      subst hk
      exact ⟨fun e => by have := h5.lt; omega, by omega, .inr (Nat.le_trans hA0 hj)⟩
  have g1 : Whole W1 g 89 #[.int .i64 (P : Nat), .int .i64 (Z : Nat), .slice LA m lc] := (hsame g h5.lt fun e => (hlb g e).1 rfl).trans h5
  have b1 : Whole W1 Bb 23 #[.slice (some ad) nb bc] := (hsame Bb h9.lt fun e => (hlb Bb e).2.1 rfl).trans h9
  have t1 : Whole W1 Bt 44 #[.pointer (some ⟨g, 0, none⟩)] := (hsame Bt h8.lt fun e => (hlb Bt e).2.2.1 rfl).trans h8
  have had : ad.block < W.heap.size := by have := hF1.2.2.2; omega
  have s1 : W1.heap[ad.block]? = W.heap[ad.block]? := hsame _ had fun e => (hlb _ e).2.2.2 rfl
  have hother : ∀ k, k ≠ g → k ≠ Bb → ((W1.setCell ⟨g, 2, none⟩ (.slice LA1 (m + n) lc1)).setCell ⟨Bb, 0, none⟩ (.slice BA1 (nb - n) (bc - n))).heap[k]? = W1.heap[k]? := fun k e1 e2 => by
    rw [Below.heap_setCell _ _ _ k e2, Below.heap_setCell _ _ _ k e1]
  have hszs : ((W1.setCell ⟨g, 2, none⟩ (.slice LA1 (m + n) lc1)).setCell ⟨Bb, 0, none⟩ (.slice BA1 (nb - n) (bc - n))).heap.size = W1.heap.size := by simp [World.setCell]
  have hcap := h10.cap
  refine ⟨h1, by omega, by omega, hm, ?_, ?_, fun k hk => (hnew k hk).2.2, ?_, ?_, ?_, ?_, ?_, h13⟩
  · exact (g1.put 2 _).elsewhere k1 _
  · refine owned_same ?_ fun k hk => hother k (hnew k hk).1 (hnew k hk).2.1
    have e : (T.drop (pre.length * P)).take m ++ (T.drop q).take n = (T.drop (pre.length * P)).take (m + n) := by
      rw [List.take_add, List.drop_drop, h2]
    rw [← e]
    exact hown
  · exact ((t1.elsewhere (p := ⟨g, 2, none⟩) (by dsimp only; omega) _).elsewhere (p := ⟨Bb, 0, none⟩) (by dsimp only; omega) _)
  · exact (b1.elsewhere (p := ⟨g, 2, none⟩) (by dsimp only; omega) _).put 0 _
  · have hk : ((W1.setCell ⟨g, 2, none⟩ (.slice LA1 (m + n) lc1)).setCell ⟨Bb, 0, none⟩ (.slice BA1 (nb - n) (bc - n))).heap[ad.block]? = W.heap[ad.block]? := (hother _ hF1.1 hF1.2.1).trans s1
    have hb1 : ∀ x, BA1 = some x → x.block = ad.block := fun x hx => by
      rw [hBA] at hx
      split at hx
      · injection hx with hx; rw [← hx]
      · injection hx with hx; rw [← hx, add_block]
    have hpart : Sl W BA1 (nb - n) (bc - n) (T.drop (q + n)) := by
      by_cases e : bc = n
      · rw [if_pos e] at hBA
        have hl := h10.len
        have : nb - n = 0 := by omega
        rw [this]
        have h0 : T.drop (q + n) = [] := List.drop_of_length_le (by omega)
        rw [h0]
        exact ⟨Row.nil _ _ _, Nat.zero_le _, fun h => by rw [hBA] at h; cases h⟩
      · rw [if_neg e] at hBA
        have := h10.part (k := n) (m := nb) hn (Nat.le_refl _) e
        rw [List.take_of_length_le (by have := h10.len; omega), List.drop_drop] at this
        rw [hBA]
        exact this
    refine hpart.kept (by rw [hszs]; exact hg.size) fun _ x hx => ?_
    rw [hb1 x hx]
    exact hk
  · intro x hx _
    rw [hBA] at hx
    split at hx
    · injection hx with hx; rw [← hx]; exact h11 ad rfl (by omega)
    · injection hx with hx; rw [← hx, add_block]; exact h11 ad rfl (by omega)
  · refine ⟨hg.os.trans h12.os, hg.tape.trans h12.tape, hg.output.trans h12.output, by rw [hszs]; exact Nat.le_trans hA0 hg.size, fun k hk hne => ?_⟩
    have e1 : k ≠ g := fun e => hne (.inl e)
    have e2 : k ≠ Bb := fun e => hne (.inr (.inl e))
    rw [hother k e1 e2, ← h12.same k hk hne]
    refine hsame k (Nat.lt_of_lt_of_le hk hA0) fun hlk => ?_
    rcases h7 k hlk with h | h
    · exact hne (.inr (.inr h))
    · omega

/-- What an append to what is left leaves as it is. -/
theorem AtC.away {ad : Addr} (hF : ∀ k, F k → k ≠ g ∧ k ≠ Bb ∧ v0.ownBlock ≠ some k ∧ k < A0.heap.size) (hgb : g ≠ Bb ∧ g ≠ Bt ∧ Bb ≠ Bt ∧ Bt < A0.heap.size ∧ Bb < A0.heap.size ∧ v0.ownBlock ≠ some Bt ∧ v0.ownBlock ≠ some Bb ∧ v0.ownBlock ≠ some g)
    (h : AtC g base P Z Bt Bb v0 T F pre A0 W q m LA lc nb (some ad) bc) (hnb : 0 < nb) :
    (∀ w', Spares (fun k => (Value.slice LA m lc).ownBlock = some k) W w' → w'.cell? ⟨Bt, 0, none⟩ = some (.pointer (some ⟨g, 0, none⟩)) ∧ w'.cell? ⟨g, 0, none⟩ = some (.int .i64 (P : Nat)) ∧ w'.cell? ⟨g, 2, none⟩ = some (.slice LA m lc) ∧ w'.cell? ⟨Bb, 0, none⟩ = some (.slice (some ad) nb bc)) ∧
    (∀ w', Spares (fun k => (Value.slice LA m lc).ownBlock = some k) W w' → Sl w' (some ad) nb bc (T.drop q)) := by
  obtain ⟨h1, h2, h3, h4, h5, h6, h7, h8, h9, h10, h11, h12, h13⟩ := h
  obtain ⟨k1, k2, k3, k4, k5, k6, k7, k8⟩ := hgb
  have hA0 := h12.size
  have hF1 := hF _ (h11 ad rfl (by omega))
  have hlb : ∀ k, (Value.slice LA m lc).ownBlock = some k → k ≠ g ∧ k ≠ Bb ∧ k ≠ Bt ∧ k ≠ ad.block := fun k hk => by
    have e1 := owned_type h6 h5 (by decide)
    rcases h7 k hk with ⟨_, hv⟩ | hge
    · refine ⟨fun e => e1 (e ▸ hk), fun e => k7 (e ▸ hv), fun e => k6 (e ▸ hv), fun e => hF1.2.2.1 (e ▸ hv)⟩
    · exact ⟨fun e => e1 (e ▸ hk), by omega, by omega, by have := hF1.2.2.2; omega⟩
  refine ⟨fun w' hw => ?_, fun w' hw => h10.kept hw.size fun _ x hx => by injection hx with hx; subst hx; exact hw.same _ (by omega) fun e => (hlb _ e).2.2.2 rfl⟩
  have g1 : Whole w' g 89 #[.int .i64 (P : Nat), .int .i64 (Z : Nat), .slice LA m lc] := (hw.same g h5.lt fun e => (hlb g e).1 rfl).trans h5
  have b1 : Boxed w' Bb 23 (.slice (some ad) nb bc) := (hw.same Bb h9.lt fun e => (hlb Bb e).2.1 rfl).trans h9
  have t1 : Boxed w' Bt 44 (.pointer (some ⟨g, 0, none⟩)) := (hw.same Bt h8.lt fun e => (hlb Bt e).2.2.1 rfl).trans h8
  have c0 := g1.cell 0
  have c2 := g1.cell 2
  simp only [List.getElem?_toArray, List.getElem?_cons_zero, List.getElem?_cons_succ] at c0 c2
  exact ⟨t1.cell, c0, c2, b1.cell⟩

theorem AtC.away2 {ad : Addr} (hF : ∀ k, F k → k ≠ g ∧ k ≠ Bb ∧ v0.ownBlock ≠ some k ∧ k < A0.heap.size) (hgb : g ≠ Bb ∧ g ≠ Bt ∧ Bb ≠ Bt ∧ Bt < A0.heap.size ∧ Bb < A0.heap.size ∧ v0.ownBlock ≠ some Bt ∧ v0.ownBlock ≠ some Bb ∧ v0.ownBlock ≠ some g)
    (h : AtC g base P Z Bt Bb v0 T F pre A0 W q m LA lc nb (some ad) bc) :
    ∀ w', Spares (fun k => (Value.slice LA m lc).ownBlock = some k) W w' → Whole w' g 89 #[.int .i64 (P : Nat), .int .i64 (Z : Nat), .slice LA m lc] ∧ Boxed w' Bb 23 (.slice (some ad) nb bc) := by
  obtain ⟨h1, h2, h3, h4, h5, h6, h7, h8, h9, h10, h11, h12, h13⟩ := h
  obtain ⟨k1, k2, k3, k4, k5, k6, k7, k8⟩ := hgb
  have hA0 := h12.size
  have hlb : ∀ k, (Value.slice LA m lc).ownBlock = some k → k ≠ g ∧ k ≠ Bb := fun k hk => by
    have e1 := owned_type h6 h5 (by decide)
    rcases h7 k hk with ⟨_, hv⟩ | hge
    · exact ⟨fun e => e1 (e ▸ hk), fun e => k7 (e ▸ hv)⟩
    · exact ⟨fun e => e1 (e ▸ hk), by omega⟩
  exact fun w' hw => ⟨(hw.same g h5.lt fun e => (hlb g e).1 rfl).trans h5, (hw.same Bb h9.lt fun e => (hlb Bb e).2 rfl).trans h9⟩
theorem AtC.putX {n : Nat} {ad : Addr} {W1 : World} {LA1 : Option Addr} {lc1 : Nat} (hF : ∀ k, F k → k ≠ g ∧ k ≠ Bb ∧ v0.ownBlock ≠ some k ∧ k < A0.heap.size) (hgb : g ≠ Bb ∧ g ≠ Bt ∧ Bb ≠ Bt ∧ Bt < A0.heap.size ∧ Bb < A0.heap.size ∧ v0.ownBlock ≠ some Bt ∧ v0.ownBlock ≠ some Bb ∧ v0.ownBlock ≠ some g)
    (h : AtC g base P Z Bt Bb v0 T F pre A0 W q m LA lc nb (some ad) bc) (hn0 : 0 < n) (hn : n ≤ nb) (hm : m + n ≤ P)
    (hown : W1.ownsRow base 5 1 (.slice LA1 (m + n) lc1) (m + n) (((T.drop (pre.length * P)).take m ++ (T.drop q).take n).map byteV)) (hg : Spares (fun k => (Value.slice LA m lc).ownBlock = some k) W W1)
    (hblk : (Value.slice LA1 (m + n) lc1).ownBlock = (Value.slice LA m lc).ownBlock ∨ ∃ j, (Value.slice LA1 (m + n) lc1).ownBlock = some j ∧ W.heap.size ≤ j) :
    (bc = n → AtC g base P Z Bt Bb v0 T F pre A0 ((W1.setCell ⟨g, 2, none⟩ (.slice LA1 (m + n) lc1)).setCell ⟨Bb, 0, none⟩ (.slice (some ad) (nb - n) (bc - n))) (q + n) (m + n) LA1 lc1 (nb - n) (some ad) (bc - n)) ∧
    (¬ bc = n → AtC g base P Z Bt Bb v0 T F pre A0 ((W1.setCell ⟨g, 2, none⟩ (.slice LA1 (m + n) lc1)).setCell ⟨Bb, 0, none⟩ (.slice (some (ad.add n)) (nb - n) (bc - n))) (q + n) (m + n) LA1 lc1 (nb - n) (some (ad.add n)) (bc - n)) :=
  ⟨fun e => h.put hF hgb hn0 hn hm hown hg hblk (by rw [if_pos e]), fun e => h.put hF hgb hn0 hn hm hown hg hblk (by rw [if_neg e])⟩

/-- Behind a round nothing is left. -/
theorem AtC.next {W2 W3 : World} {x : Xp} (hF : ∀ k, F k → k ≠ g ∧ k ≠ Bb ∧ v0.ownBlock ≠ some k ∧ k < A0.heap.size) (h : AtC g base P Z Bt Bb v0 T F pre A0 W q P LA lc nb BA bc) (hP : P ≤ 4096)
    (hx : x = ((LA, P, lc), (T.drop (pre.length * P)).take P)) (hg : Whole W2 g 89 #[.int .i64 (P : Nat), .int .i64 (Z : Nat), .slice none 0 0]) (hsp : Spares (fun k => k = g) W W2)
    (hsz : W2.heap.size ≤ W3.heap.size) (hk3 : ∀ k, k < W2.heap.size → (k = g ∨ k = Bb ∨ k = Bt ∨ F k) ∨ A0.heap.size ≤ k → W3.heap[k]? = W2.heap[k]?) (hgb : g ≠ Bb ∧ g ≠ Bt) :
    AtC g base P Z Bt Bb v0 T F (pre ++ [x]) W3 W3 q 0 none 0 nb BA bc := by
  obtain ⟨h1, h2, h3, h4, h5, h6, h7, h8, h9, h10, h11, h12, h13⟩ := h
  have hA0 := h12.size
  have hsame : ∀ k, k ≠ g → k < W.heap.size → (k = g ∨ k = Bb ∨ k = Bt ∨ F k) ∨ A0.heap.size ≤ k → W3.heap[k]? = W.heap[k]? := fun k e hk hc => (hk3 k (Nat.lt_of_lt_of_le hk hsp.size) hc).trans (hsp.same k hk e)
  refine ⟨?_, ?_, h3, Nat.zero_le _, (hk3 g hg.lt (.inl (.inl rfl))).trans hg, World.ownsRow_nil _ _ _ _, fun k hk => by simp [Value.ownBlock] at hk, ?_, ?_, ?_, h11, Spares.refl _ _, Nat.le_trans h13 (Nat.le_trans hA0 (Nat.le_trans hsp.size hsz))⟩
  · rw [List.map_append, List.length_append, h1, hx]
    exact piecesN_snoc.symm
  · rw [List.length_append, List.length_singleton, Nat.add_mul]
    omega
  · exact (hsame Bt (fun e => hgb.2 e.symm) h8.lt (.inl (.inr (.inr (.inl rfl))))).trans h8
  · exact (hsame Bb (fun e => hgb.1 e.symm) h9.lt (.inl (.inr (.inl rfl)))).trans h9
  · refine h10.kept (Nat.le_trans hsp.size hsz) fun hn ad hA => ?_
    have := hF _ (h11 ad hA hn)
    exact hsame _ this.1 (by omega) (.inl (.inr (.inr (.inr (h11 ad hA hn)))))

/-- The piece as a round is told of it. -/
theorem AtC.piece {W2 : World} (h : AtC g base P Z Bt Bb v0 T F pre A0 W q P LA lc nb BA bc) (hsp : Spares (fun k => k = g) W W2) : ToldC base P v0 T pre ((LA, P, lc), (T.drop (pre.length * P)).take P) A0 W2 ∧ Spares (ownC g Bb v0 pre) A0 W2 :=
  ⟨⟨rfl, rfl, owned_same h.left fun k hk => hsp.same k (owned_lt h.left hk).2 fun e => owned_type h.left h.cut (by decide) (e ▸ hk), h.blk⟩, h.spares.trans (hsp.wider fun k _ hk => .inl hk)⟩

/-- All has been taken out of b. -/
theorem AtC.ends (hP : 0 < P) (h : AtC g base P Z Bt Bb v0 T F pre A0 W q m LA lc 0 BA bc) (hm : m < P) : LeftC g base P Z v0 T pre A0 W := by
  obtain ⟨h1, h2, h3, h4, h5, h6, h7, h8, h9, h10, h11, h12, h13⟩ := h
  have hd : T.length / P = pre.length := pieces_many hP (by omega) (by rw [Nat.add_mul]; omega)
  have hr : restB P T = (T.drop (pre.length * P)).take m := by
    unfold restB
    rw [hd, List.take_of_length_le (by rw [List.length_drop]; omega)]
  have hl : (restB P T).length = m := by rw [hr, List.length_take, List.length_drop]; omega
  refine ⟨by unfold piecesB; rw [hd]; exact h1, _, ⟨h5, ?_, by rw [hl]; exact hm⟩, h7⟩
  rw [hl, hr]
  exact h6
end
end Go.Proofs.Ytlcpbkbojjpfaaa
