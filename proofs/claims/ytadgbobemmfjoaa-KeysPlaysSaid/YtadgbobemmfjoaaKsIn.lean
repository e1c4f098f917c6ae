/-
  A directory that a law has made: in blocks from B on, apart from others that the law needs.
-/
import Derived.Test.YtadgbobemmfjoaaKsFrom
import Derived.Test.YtadgbobemmfjoaaKsEq
import Derived.Test.YtadgbobemmfjoaaKsNames
namespace Go.Proofs.Ytadgbobemmfjoaa
open Go.RowKit
set_option linter.unusedVariables false
set_option linter.unusedSimpArgs false

def KsIn (B : Nat) (w0 w : World) (d : Nat) (out : Nat → Prop) (L : List Pl) : Prop :=
  ∃ own, DirIn w d own L ∧ B ≤ d ∧ (∀ k, own k → B ≤ k) ∧ Below B w0 w ∧ B ≤ w.heap.size ∧ ∀ k, out k → k < w.heap.size ∧ k ≠ d ∧ ¬ own k
abbrev KStays (B : Nat) (out : Nat → Prop) (w w' : World) : Prop := Spares (fun k => B ≤ k ∧ ¬ out k) w w'
section
variable {B d : Nat} {w0 w w' : World} {out : Nat → Prop} {L : List Pl}
theorem KsIn.low (h : KsIn B w0 w d out L) : Below B w0 w := by obtain ⟨_, _, _, _, h, _⟩ := h; exact h
theorem KsIn.size (h : KsIn B w0 w d out L) : B ≤ w.heap.size := by obtain ⟨_, _, _, _, _, h, _⟩ := h; exact h
theorem KsIn.lt (h : KsIn B w0 w d out L) {k : Nat} (hk : out k) : k < w.heap.size := by obtain ⟨_, _, _, _, _, _, h⟩ := h; exact (h k hk).1
theorem KsIn.keys (h : KsIn B w0 w d out L) : ∀ p ∈ L, p.key.length ≤ 1000000000 := by obtain ⟨_, ⟨_, h⟩, _⟩ := h; exact h
theorem KsIn.inc (h : KsIn B w0 w d out L) : Inc L := by obtain ⟨_, ⟨⟨_, _, _, _, _, _, h⟩, _⟩, _⟩ := h; exact h.inc
theorem KsIn.grow (h : KsIn B w0 w d out L) (hg : Grows w w') : KsIn B w0 w' d out L := by
  obtain ⟨own, h1, h2, h3, h4, h5, h6⟩ := h
  exact ⟨own, h1.grow hg, h2, h3, h4.trans (Below.mono hg h5), Nat.le_trans h5 hg.size, fun k hk => ⟨Nat.lt_of_lt_of_le (h6 k hk).1 hg.size, (h6 k hk).2⟩⟩
/-- What has been laid since lies apart, too. -/
theorem KsIn.more (h : KsIn B w0 w d out L) (hg : Grows w w') : KsIn B w0 w' d (fun k => out k ∨ (w.heap.size ≤ k ∧ k < w'.heap.size)) L := by
  obtain ⟨own, h1, h2, h3, h4, h5, h6⟩ := h
  refine ⟨own, h1.grow hg, h2, h3, h4.trans (Below.mono hg h5), Nat.le_trans h5 hg.size, ?_⟩
  have hl := h1.lt
  rintro k (hk | hk)
  · exact ⟨Nat.lt_of_lt_of_le (h6 k hk).1 hg.size, (h6 k hk).2⟩
  · exact ⟨hk.2, by omega, fun e => by have := hl.2 k e; omega⟩
theorem KsIn.less {out' : Nat → Prop} (h : KsIn B w0 w d out L) (ho : ∀ k, out' k → out k) : KsIn B w0 w d out' L := by
  obtain ⟨own, h1, h2, h3, h4, h5, h6⟩ := h
  exact ⟨own, h1, h2, h3, h4, h5, fun k hk => h6 k (ho k hk)⟩
/-- A step of another's: the directory is as it was. -/
theorem KsIn.other (h : KsIn B w0 w d out L) {oth : Nat → Prop} (hs : Spares oth w w') (ho : ∀ k, oth k → k < w.heap.size → out k) (hB : ∀ k, oth k → B ≤ k) : KsIn B w0 w' d out L := by
  obtain ⟨own, h1, h2, h3, h4, h5, h6⟩ := h
  have hl := h1.lt
  refine ⟨own, h1.off hs fun k hk e => ?_, h2, h3, h4.trans (hs.below h5 fun k hk e => by have := hB k e; omega), Nat.le_trans h5 hs.size, fun k hk => ⟨Nat.lt_of_lt_of_le (h6 k hk).1 hs.size, (h6 k hk).2⟩⟩
  have hk2 : k < w.heap.size := hk.elim (hl.2 k) fun e => by omega
  have h7 := h6 k (ho k e hk2)
  exact hk.elim h7.2.2 h7.2.1
theorem KsIn.to {f : FuncId} {args : Array Value} {v : Value} {L' : List Pl} (h : KsIn B w0 w d out L) (hc : ∀ own, DirIn w d own L → Calls Try.prog f args w fun e w' => e = .returned v ∧ DirTo w d own L' w') :
    Calls Try.prog f args w fun e w' => e = .returned v ∧ KsIn B w0 w' d out L' ∧ KStays B out w w' := by
  obtain ⟨own, h1, h2, h3, h4, h5, h6⟩ := h
  refine (hc own h1).mono ?_
  rintro e w' ⟨rfl, own', k1, k2, k3⟩
  have k3' : KStays B out w w' := k3.wider fun k _ hk => ⟨hk.elim (h3 k) (fun e => by omega), fun ho => hk.elim (h6 k ho).2.2 (h6 k ho).2.1⟩
  refine ⟨rfl, ⟨own', k1, h2, fun k hk => (k2 k hk).elim (h3 k) (Nat.le_trans h5), h4.trans (k3'.below h5 fun k hk e => by have := e.1; omega), Nat.le_trans h5 k3'.size, fun k hk => ⟨Nat.lt_of_lt_of_le (h6 k hk).1 k3.size, (h6 k hk).2.1, fun e => ?_⟩⟩, k3'⟩
  rcases k2 k e with e | e
  · exact (h6 k hk).2.2 e
  · have := (h6 k hk).1; omega
theorem KStays.keep {k : Nat} (hs : KStays B out w w') (hk : k < w.heap.size) (ho : k < B ∨ out k) : w'.heap[k]? = w.heap[k]? := hs.same k hk fun e => ho.elim (fun h => by omega) e.2

/-! The calls. -/
theorem new_in (h : Below B w0 w) (hB : B ≤ w.heap.size) (hout : ∀ k, out k → k < w.heap.size) : Calls Try.prog 10 #[] w fun e w' => ∃ d, e = .returned (.pointer (some ⟨d, 0, none⟩)) ∧ KsIn B w0 w' d out [] ∧ Grows w w' := by
  refine (knew_any w).mono ?_
  rintro e w' ⟨d, own, rfl, h1, h2, h3, h4⟩
  exact ⟨d, rfl, ⟨own, h1, Nat.le_trans hB h2, fun k hk => Nat.le_trans hB (h3 k hk), h.trans (Below.mono h4 hB), Nat.le_trans hB h4.size, fun k hk => ⟨Nat.lt_of_lt_of_le (hout k hk) h4.size, fun e => by have := hout k hk; omega, fun e => by have := hout k hk; have := h3 k e; omega⟩⟩, h4⟩
theorem put_at (p : Pl) (h : KsIn B w0 w d out L) (hk : p.key.length ≤ 1000000000) (hn : L.length < 400000) {x : Option Pl} (hx : getL p.key L = x) {L' : List Pl} (hL : kputL p L = L') :
    Calls Try.prog 20 #[.pointer (some ⟨d, 0, none⟩), plV p] w fun e w' => e = .returned (plTo x) ∧ KsIn B w0 w' d out L' ∧ KStays B out w w' := by
  subst hx hL
  exact h.to fun own ha => kput_any p hk w ha hn
theorem del_at (key : List UInt8) (h : KsIn B w0 w d out L) (hk : key.length ≤ 1000000000) (hn : L.length < 400000) {x : Option Pl} (hx : getL key L = x) {L' : List Pl} (hL : delL key L = L') :
    Calls Try.prog 13 #[.pointer (some ⟨d, 0, none⟩), .string ⟨key.toArray⟩] w fun e w' => e = .returned (plTo x) ∧ KsIn B w0 w' d out L' ∧ KStays B out w w' := by
  subst hx hL
  exact h.to fun own ha => kdel_any key hk w ha hn
theorem get_at (key : List UInt8) (h : KsIn B w0 w d out L) (hk : key.length ≤ 1000000000) (hn : L.length < 400000) {x : Option Pl} (hx : getL key L = x) :
    Calls Try.prog 15 #[.pointer (some ⟨d, 0, none⟩), .string ⟨key.toArray⟩] w fun e w' => e = .returned (plTo x) ∧ Grows w w' := by
  subst hx
  obtain ⟨own, h1, _⟩ := h
  exact kget_any key hk w h1 hn
theorem many_at (h : KsIn B w0 w d out L) (hn : L.length < 400000) {n : Nat} (hx : L.length = n) : Calls Try.prog 22 #[.pointer (some ⟨d, 0, none⟩)] w fun e w' => e = .returned (.int .i64 (n : Nat)) ∧ w = w' := by
  subst hx
  obtain ⟨own, h1, _⟩ := h
  exact kmany_any w h1 hn
theorem list_at (h : KsIn B w0 w d out L) (hn : L.length < 400000) {l : Ks} (hl : L.map (·.key) = l) : Calls Try.prog 24 #[.pointer (some ⟨d, 0, none⟩)] w fun e w' => ∃ A n c, e = .returned (.slice A n c) ∧ OwnS w' w.heap.size A n c l ∧ Grows w w' := by
  subst hl
  obtain ⟨own, h1, _⟩ := h
  exact klist_any w h1 hn
theorem from_at (key : List UInt8) (N : Int) (h : KsIn B w0 w d out L) (hN : -9223372036854775808 ≤ N ∧ N ≤ 9223372036854775807) (hn : L.length < 400000) {l : Ks} (hl : fromP key N.toNat L = l) :
    Calls Try.prog 18 #[.pointer (some ⟨d, 0, none⟩), .string ⟨key.toArray⟩, .int .i64 N] w fun e w' => ∃ A n c, e = .returned (.slice A n c) ∧ OwnS w' w.heap.size A n c l ∧ Grows w w' := by
  subst hl
  obtain ⟨own, h1, _⟩ := h
  exact kfrom_any key N hN w h1 hn
theorem from_none (key : List UInt8) (N : Int) (hN : N ≤ 0) (w : World) (d : Nat) :
    Calls Try.prog 18 #[.pointer (some ⟨d, 0, none⟩), .string ⟨key.toArray⟩, .int .i64 N] w fun e w' => e = .returned (.slice none 0 0) ∧ Grows w w' := by
  have HG := Lib.hid (Grows.trans (grows_alloc w (.cells #[.string ⟨key.toArray⟩] 9)) (grows_alloc (w.alloc (.cells #[.string ⟨key.toArray⟩] 9)) (.cells #[.int .i64 N] 3)))
  go_enter Try.func18, Try.ntmps18
  go_wp2_with (fail)
  go_ret
  exact ⟨rfl, HG.out⟩
end
/-- law13's place. -/
def plc (key : List UInt8) (n : Int) : Pl := ⟨n, 3, key, 13, 20⟩
set_option maxHeartbeats 1000000 in
theorem place_any (key : List UInt8) (n : Int) (w : World) : Calls Try.prog 26 #[.string ⟨key.toArray⟩, .int .i64 n] w fun e w' => e = .returned (plV (plc key n)) ∧ Grows w w' := by
  show Calls _ _ _ _ fun e w' => e = .returned (.agg #[.int .i64 n, .int .i64 3, .string ⟨key.toArray⟩, .int .i64 13, .int .i64 20]) ∧ Grows w w'
  have hg1 := grows_alloc w (.cells #[.int .i64 0, .int .i64 0, .string ⟨#[]⟩, .int .i64 0, .int .i64 0] 32)
  have hm1 := Whole.made w 32 #[.int .i64 0, .int .i64 0, .string ⟨#[]⟩, .int .i64 0, .int .i64 0]
  obtain ⟨W1, hW1⟩ : ∃ W1, w.alloc (.cells #[.int .i64 0, .int .i64 0, .string ⟨#[]⟩, .int .i64 0, .int .i64 0] 32) = W1 := ⟨_, rfl⟩
  rw [hW1] at hg1 hm1
  obtain ⟨kb, hkb⟩ : ∃ kb, w.heap.size = kb := ⟨_, rfl⟩
  rw [hkb] at hm1
  have HX := Lib.hid (And.intro hg1 (And.intro hm1 (show w.heap.size ≤ kb from by omega)))
  clear hg1 hm1
  go_enter Try.func26, Try.ntmps26
  go_wp2_with (first
    | rw [hW1]
    | (refine wpList_store_row rfl 32 _ _ rfl kb #[.int .i64 n, .int .i64 3, .string ⟨key.toArray⟩, .int .i64 13, .int .i64 20] rfl rfl 32 _ HX.out.2.1 sizePl rfl (plV_one _ _ _ _ _) ?_)
    | fail)
  refine bodyPost_ret (results_cell_row rfl _ _ kb _ _ (0, 0) _ rfl (HX.out.2.1.rowed _) Try.underlying32 rfl (by kernel_rfl)) rfl ?_
  exact ⟨rfl, below_setRow HX.out.1 HX.out.2.2 _⟩
end Go.Proofs.Ytadgbobemmfjoaa
