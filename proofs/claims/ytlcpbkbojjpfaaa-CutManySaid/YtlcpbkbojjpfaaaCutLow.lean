/-
  The cutter's calls as laws see them: what lies below block B stays.
-/
import Derived.Test.YtlcpbkbojjpfaaaCutWrite
import Derived.Test.YtlcpbkbojjpfaaaCutRefW
import Derived.Test.YtlcpbkbojjpfaaaCame
namespace Go.Proofs.Ytlcpbkbojjpfaaa
open Go.RowKit
set_option linter.unusedVariables false

theorem nil_cut (x : Int) (w : World) (hx : -9223372036854775808 ≤ x ∧ x < 9223372036854775808) (h : x < 1 ∨ 4096 < x) : Calls Try.prog 31 #[.int .i64 x] w fun e w' => e = .returned (.pointer none) ∧ w = w' :=
  (new_cut x w hx).mono fun e w' hh => by
    rcases hh with ⟨_, he, hw⟩ | ⟨P, rfl, h1, h2, _⟩
    · exact ⟨he, hw.symm⟩
    · omega
theorem make_cut (P : Nat) (w : World) (h : 1 ≤ P ∧ P ≤ 4096) : Calls Try.prog 31 #[.int .i64 (P : Nat)] w fun e w' => e = .returned (.pointer (some ⟨w.heap.size, 0, none⟩)) ∧ CutHas w' w.heap.size w.heap.size P 0 (.slice none 0 0) [] ∧ Grows w w' :=
  (new_cut (P : Nat) w (by omega)).mono fun e w' hh => by
    rcases hh with ⟨h, _⟩ | ⟨Q, hq, h1, h2, he, hc, hg⟩
    · omega
    · obtain rfl : Q = P := by omega
      exact ⟨he, hc, hg⟩

/-- A slice of slices of bytes reads as these, its parts lying there. -/
structure ListsH (w : World) (A : Option Addr) (n c : Nat) (hs : List (Option Addr × Nat × Nat)) (ls : List (List UInt8)) : Prop where
  len : ls.length = n
  cap : n ≤ c
  bare : A = none → c = 0
  row : Row w w.heap.size A n (hs.map slV)
  rows : ∀ (i : Nat) (h : Option Addr × Nat × Nat) (l : List UInt8), hs[i]? = some h → ls[i]? = some l → Sl w h.1 h.2.1 h.2.2 l
theorem ListsH.lists {w : World} {A : Option Addr} {n c : Nat} {hs : List (Option Addr × Nat × Nat)} {ls : List (List UInt8)} (h : ListsH w A n c hs ls) : Lists w A n c ls := ⟨h.len, h.cap, h.bare, hs, h.row, h.rows⟩
/-- Pieces lie somewhere: as a list. -/
theorem Laid.listsH {w : World} {base P B b : Nat} {v : Value} {xs : List Xp} {A : Option Addr} {c : Nat} (h : Laid w base P v B xs) (ho : w.ownsRow b 23 1 (.slice A xs.length c) xs.length (xs.map fun x => slV x.1)) : ListsH w A xs.length c (xs.map (·.1)) (xs.map (·.2)) := by
  obtain ⟨A', c', e, hb⟩ := slice_of_owned ho
  injection e with e1 _ e3
  subst e1 e3
  refine ⟨by simp, ?_, hb, by rw [List.map_map]; exact Row.owned ho, fun i x l hx hl => ?_⟩
  · rcases ho.2 with ⟨e1, e2⟩ | ⟨g, cap, cur, e1, _, _, e2, _⟩
    · omega
    · injection e1 with _ _ e1; omega
  · rw [List.getElem?_map] at hx hl
    cases hxi : xs[i]? with
    | none => rw [hxi] at hx; cases hx
    | some y =>
      rw [hxi] at hx hl
      simp only [Option.map_some, Option.some.injEq] at hx hl
      subst hx hl
      obtain ⟨h1, h2⟩ := h.rows y (List.mem_of_getElem? hxi)
      obtain ⟨⟨yA, ym, yc⟩, yb⟩ := y
      dsimp only at h1
      subst h1
      exact Sl.owned h2

/-- What is not the cutter's stays. -/
theorem low_of {w w' : World} {g B P Z : Nat} {v : Value} {L : List UInt8} (h : CutHas w g B P Z v L) (hg : B ≤ g) (hB : B ≤ w.heap.size) (hs : Spares (fun k => k = g ∨ v.ownBlock = some k) w w') : Below B w w' :=
  hs.below hB fun k hk e => by
    rcases e with e | e
    · omega
    · have := (owned_lt h.left e).1; omega

/-- All that was there stays, but for cutters' own blocks and what is left. -/
def Keeps (v : Value) (w w' : World) : Prop := w.heap.size ≤ w'.heap.size ∧ ∀ k, k < w.heap.size → (∀ cs fr, w.heap[k]? ≠ some (.cells cs 89 fr)) → v.ownBlock ≠ some k → w'.heap[k]? = w.heap[k]?
theorem Keeps.grows {v : Value} {w w' : World} (h : Grows w w') : Keeps v w w' := ⟨h.size, fun k hk _ _ => h.block k hk⟩
theorem Keeps.step {v : Value} {own : Nat → Prop} {w0 w w' : World} (h0 : Keeps v w0 w) (hv : ∀ k, own k → (∃ cs fr, w0.heap[k]? = some (.cells cs 89 fr)) ∨ v.ownBlock = some k ∨ w0.heap.size ≤ k) (h : Spares own w w') : Keeps v w0 w' :=
  ⟨Nat.le_trans h0.1 h.size, fun k hk h1 h2 => (h.same k (Nat.lt_of_lt_of_le hk h0.1) (fun e => by
    rcases hv k e with ⟨cs, fr, e⟩ | e | e
    · exact h1 cs fr e
    · exact h2 e
    · omega)).trans (h0.2 k hk h1 h2)⟩
theorem Keeps.spares {g : Nat} {v v1 : Value} {cs : Array Value} {w0 w w' : World} (h0 : Keeps v w0 w) (hg : Whole w0 g 89 cs ∨ w0.heap.size ≤ g) (hv : ∀ k, v1.ownBlock = some k → v.ownBlock = some k ∨ w0.heap.size ≤ k) (h : Spares (fun k => k = g ∨ v1.ownBlock = some k) w w') : Keeps v w0 w' :=
  h0.step (fun k e => by
    rcases e with rfl | e
    · rcases hg with hg | hg
      · exact .inl ⟨_, _, hg⟩
      · exact .inr (.inr hg)
    · exact .inr (hv k e)) h
theorem Keeps.alone {g : Nat} {v : Value} {cs : Array Value} {w0 w w' : World} (h0 : Keeps v w0 w) (hg : Whole w0 g 89 cs ∨ w0.heap.size ≤ g) (h : Spares (fun k => k = g) w w') : Keeps v w0 w' :=
  h0.step (fun k e => by
    subst e
    rcases hg with hg | hg
    · exact .inl ⟨_, _, hg⟩
    · exact .inr (.inr hg)) h
theorem Keeps.more {v : Value} {w0 w w' : World} (h0 : Keeps v w0 w) (h : Grows w w') : Keeps v w0 w' := h0.step (own := fun _ => False) (fun k e => e.elim) (Spares.grows h)
theorem owned_kind {w : World} {base : Nat} {e t : TypeId} {size : Nat} {v : Value} {n : Nat} {xs : List Value} (h : w.ownsRow base e size v n xs) (ht : e ≠ t) {k : Nat} (hk : v.ownBlock = some k) : ∀ cs fr, w.heap[k]? ≠ some (.cells cs t fr) := by
  intro cs fr hh
  rcases h.2 with ⟨rfl, _⟩ | ⟨g', cap, cur, rfl, hb, hh', r⟩
  · simp [Value.ownBlock] at hk
  · obtain rfl : g' = k := by simpa [Value.ownBlock] using hk
    rw [hh'] at hh
    injection hh with hh
    injection hh with _ e _
    exact ht e

/-- .. of the blocks that pieces may lie in. -/
def KeepsF (F : Nat → Prop) (v : Value) (w w' : World) : Prop := w.heap.size ≤ w'.heap.size ∧ ∀ k, k < w.heap.size → F k → (∀ cs fr, w.heap[k]? ≠ some (.cells cs 89 fr)) → v.ownBlock ≠ some k → w'.heap[k]? = w.heap[k]?
theorem Keeps.part {F : Nat → Prop} {v : Value} {w w' : World} (h : Keeps v w w') : KeepsF F v w w' := ⟨h.1, fun k hk _ => h.2 k hk⟩
theorem KeepsF.grows {F : Nat → Prop} {v : Value} {w w' : World} (h : Grows w w') : KeepsF F v w w' := ⟨h.size, fun k hk _ _ _ => h.block k hk⟩
theorem KeepsF.step {F : Nat → Prop} {v : Value} {own : Nat → Prop} {w0 w w' : World} (h0 : KeepsF F v w0 w) (hv : ∀ k, own k → ¬ F k ∨ (∃ cs fr, w0.heap[k]? = some (.cells cs 89 fr)) ∨ v.ownBlock = some k ∨ w0.heap.size ≤ k) (h : Spares own w w') : KeepsF F v w0 w' :=
  ⟨Nat.le_trans h0.1 h.size, fun k hk hF h1 h2 => (h.same k (Nat.lt_of_lt_of_le hk h0.1) (fun e => by
    rcases hv k e with e | ⟨cs, fr, e⟩ | e | e
    · exact e hF
    · exact h1 cs fr e
    · exact h2 e
    · omega)).trans (h0.2 k hk hF h1 h2)⟩

theorem write_lowF (g B P Z : Nat) (v : Value) (L : List UInt8) (A : Option Addr) (n c : Nat) (bs : List UInt8) (w : World) (h : CutHas w g B P Z v L) (hg : B ≤ g) (hs : Sl w A n c bs) (hA : 0 < n → ∀ ad, A = some ad → ad.block ≠ g ∧ v.ownBlock ≠ some ad.block)
    (hP : P ≤ 4096) (hn : n ≤ 1000000) (hZ : Z ≤ 1000000000) (hB : B ≤ w.heap.size) :
    Calls Try.prog 35 #[.pointer (some ⟨g, 0, none⟩), .slice A n c] w fun e w' => ∃ A' m' c' v' hs, e = .returned (.slice A' m' c') ∧ (∀ w'', KeepsF (fun k => v.ownBlock = some k ∨ w.heap.size ≤ k) v' w' w'' → ListsH w'' A' m' c' hs (piecesB P (L ++ bs))) ∧ CutHas w' g B P (Z + n) v' (restB P (L ++ bs)) ∧ Below B w w' ∧
      Spares (fun k => k = g ∨ v.ownBlock = some k) w w' ∧ (∀ k, v'.ownBlock = some k → v.ownBlock = some k ∨ w.heap.size ≤ k) := by
  refine (write_cut g B P Z v L A n c bs w h hs hA hP hn hZ hB).mono ?_
  rintro e w' ⟨A', c', xs, v', he, h1, h2, h3, h4, h5, h6⟩
  refine ⟨A', xs.length, c', v', xs.map (·.1), he, fun w'' hk => ?_, h4, low_of h hg hB h5, h5, fun k hk => ?_⟩
  · rw [← h3]
    refine (h2.keep fun x hx k hxk => ?_).listsH (owned_same h1 fun k hk1 => ?_)
    · refine hk.2 k (owned_lt (h2.rows x hx).2 hxk).2 (h2.blks x hx k hxk) (owned_kind (h2.rows x hx).2 (by decide) hxk) fun e => ?_
      rcases h6 k e with ⟨e, _⟩ | ⟨_, e⟩
      · subst e; cases hx
      · exact e x hx hxk
    · refine hk.2 k (owned_lt h1 hk1).2 (.inr (owned_lt h1 hk1).1) (owned_kind h1 (by decide) hk1) fun e => ?_
      rcases own_apartC h1 h4.left (by decide) with h0 | h0
      · rw [h0] at hk1; cases hk1
      · exact h0 (hk1.trans e.symm)
  · rcases h6 k hk with h | h
    · exact .inl h.2
    · exact .inr h.1
theorem write_lowH (g B P Z : Nat) (v : Value) (L : List UInt8) (A : Option Addr) (n c : Nat) (bs : List UInt8) (w : World) (h : CutHas w g B P Z v L) (hg : B ≤ g) (hs : Sl w A n c bs) (hA : 0 < n → ∀ ad, A = some ad → ad.block ≠ g ∧ v.ownBlock ≠ some ad.block)
    (hP : P ≤ 4096) (hn : n ≤ 1000000) (hZ : Z ≤ 1000000000) (hB : B ≤ w.heap.size) :
    Calls Try.prog 35 #[.pointer (some ⟨g, 0, none⟩), .slice A n c] w fun e w' => ∃ A' m' c' v' hs, e = .returned (.slice A' m' c') ∧ (∀ w'', Keeps v' w' w'' → ListsH w'' A' m' c' hs (piecesB P (L ++ bs))) ∧ CutHas w' g B P (Z + n) v' (restB P (L ++ bs)) ∧ Below B w w' ∧
      Spares (fun k => k = g ∨ v.ownBlock = some k) w w' ∧ (∀ k, v'.ownBlock = some k → v.ownBlock = some k ∨ w.heap.size ≤ k) := by
  refine (write_lowF g B P Z v L A n c bs w h hg hs hA hP hn hZ hB).mono ?_
  rintro e w' ⟨A', m', c', v', hs, he, h1, h2⟩
  exact ⟨A', m', c', v', hs, he, fun w'' hk => h1 w'' hk.part, h2⟩
theorem write_low (g B P Z : Nat) (v : Value) (L : List UInt8) (A : Option Addr) (n c : Nat) (bs : List UInt8) (w : World) (h : CutHas w g B P Z v L) (hg : B ≤ g) (hs : Sl w A n c bs) (hA : 0 < n → ∀ ad, A = some ad → ad.block ≠ g ∧ v.ownBlock ≠ some ad.block)
    (hP : P ≤ 4096) (hn : n ≤ 1000000) (hZ : Z ≤ 1000000000) (hB : B ≤ w.heap.size) :
    Calls Try.prog 35 #[.pointer (some ⟨g, 0, none⟩), .slice A n c] w fun e w' => ∃ A' m' c' v', e = .returned (.slice A' m' c') ∧ (∀ w'', Keeps v' w' w'' → Lists w'' A' m' c' (piecesB P (L ++ bs))) ∧ CutHas w' g B P (Z + n) v' (restB P (L ++ bs)) ∧ Below B w w' ∧
      Spares (fun k => k = g ∨ v.ownBlock = some k) w w' ∧ (∀ k, v'.ownBlock = some k → v.ownBlock = some k ∨ w.heap.size ≤ k) := by
  refine (write_lowH g B P Z v L A n c bs w h hg hs hA hP hn hZ hB).mono ?_
  rintro e w' ⟨A', m', c', v', hs, he, h1, h2⟩
  exact ⟨A', m', c', v', he, fun w'' hk => (h1 w'' hk).lists, h2⟩
theorem fit_sum (a b c : Nat) (h : a + b = c) (hc : c ≤ 1000000000000) : IntKind.i64.wrap ((a : Int) + (b : Int)) = (c : Int) ∧ wrap64 ((a : Int) + (b : Int)) = (c : Int) := by
  subst h
  rw [IntWalk.i64_in _ (by omega), IntWalk.wrap64_in _ (by omega)]
  omega
theorem fit_sumB (a b c : Nat) (h : a + b = c) (hc : c ≤ 1000000000000000) : IntKind.i64.wrap ((a : Int) + (b : Int)) = (a : Int) + (b : Int) ∧ wrap64 ((a : Int) + (b : Int)) = (a : Int) + (b : Int) := by
  rw [IntWalk.i64_in _ (by omega), IntWalk.wrap64_in _ (by omega)]
  exact ⟨rfl, rfl⟩
theorem fit_one (a : Nat) (hc : a ≤ 1000000000000) : IntKind.i64.wrap (a : Int) = (a : Int) ∧ wrap64 (a : Int) = (a : Int) := by
  rw [IntWalk.i64_in _ (by omega), IntWalk.wrap64_in _ (by omega)]
  exact ⟨rfl, rfl⟩
/-- A literal's list of slices. -/
theorem lists_lit {w : World} {t g : Nat} {hs : List (Option Addr × Nat × Nat)} {ls : List (List UInt8)} {n : Nat} (h : Whole w g t ((hs.map slV).toArray)) (hl : hs.length = n) (hn : ls.length = n) (hr : ∀ (i : Nat) (h : Option Addr × Nat × Nat) (l : List UInt8), hs[i]? = some h → ls[i]? = some l → Sl w h.1 h.2.1 h.2.2 l) : Lists w (some ⟨g, 0, none⟩) n n ls :=
  ⟨hn, Nat.le_refl _, (fun h => by cases h), hs, ⟨by simp [hl], fun k v hv => ⟨⟨g, 0, none⟩, rfl, h.lt, by
    rw [show (⟨g, 0, none⟩ : Addr).add k = ⟨g, k, none⟩ by unfold Addr.add; split <;> simp_all, h.cell k]
    simpa using hv⟩⟩, hr⟩
end Go.Proofs.Ytlcpbkbojjpfaaa
