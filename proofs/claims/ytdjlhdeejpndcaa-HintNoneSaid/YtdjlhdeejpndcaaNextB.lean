/-
  The walk of scan.Next.
-/
import Derived.Test.YtdjlhdeejpndcaaIter
namespace Go.Proofs.Ytdjlhdeejpndcaa
open Go.RowKit Go.Shelf
attribute [local go_sem] Oper.semAt_some

/-- What Next leaves in its results' cells. -/
def NextLeft (n₀ : Nat) (w : World) (l : List Xv) (W : World) : Prop :=
  ∃ pre x, l = pre ++ [x] ∧ (∀ y ∈ pre, y.1.2.2.2 ≠ 0 ∧ y.1.2.1 ≠ 0) ∧ (x.1.2.2.2 = 0 ∨ x.1.2.1 = 0) ∧
    ∃ A m c, W.heap[n₀]? = some (.cells #[.int .i64 ((if x.1.2.2.2 = 0 then x.1.1 else 0 : Nat) : Int), .int .i64 ((if x.1.2.2.2 = 0 then x.1.2.1 else 0 : Nat) : Int), .slice A m c] 56 (0, 0)) ∧
      W.ownsRow n₀ 5 1 (.slice A m c) m ((if x.1.2.2.2 = 0 then x.1.2.2.1 else []).map byteV) ∧ Boxed W (n₀ + 1) 3 (.int .i64 ((x.1.1 + x.1.2.1 : Nat) : Int)) ∧ Boxed W (n₀ + 1 + 1) 51 (.int .i64 (x.1.2.2.2 : Nat)) ∧ Below n₀ w W
def NextHas (n₀ : Nat) (N a0 : Nat) (w : World) (pre : List Xv) (W : World) : Prop :=
  (∀ y ∈ pre, y.1.2.2.2 ≠ 0 ∧ y.1.2.1 ≠ 0) ∧ endE a0 (pre.map (·.1)) ≤ N ∧ Boxed W (n₀ + 1 + 1 + 1) 3 (.int .i64 (endE a0 (pre.map (·.1)) : Nat)) ∧
    W.heap[n₀]? = some (.cells #[.int .i64 0, .int .i64 0, .slice none 0 0] 56 (0, 0)) ∧ Boxed W (n₀ + 1) 3 (.int .i64 0) ∧ Boxed W (n₀ + 1 + 1) 51 (.int .i64 0) ∧ Below n₀ w W

theorem NextHas.stay {n₀ N a0 B : Nat} {w X Y : World} {pre : List Xv} (hB : n₀ ≤ B) (hw : n₀ ≤ w.heap.size) (h : NextHas n₀ N a0 w pre X) (hc : Cellwise B X Y) : NextHas n₀ N a0 w pre Y := by
  obtain ⟨h1, h2, h3, h4, h5, h6, h7⟩ := h
  exact ⟨h1, h2, hc.boxed h3, hc.held h4, hc.boxed h5, hc.boxed h6, h7.trans (hc.under hB (Nat.le_trans hw h7.size))⟩
theorem NextLeft.stay {n₀ B : Nat} {w X Y : World} {l : List Xv} (hB : n₀ ≤ B) (hw : n₀ ≤ w.heap.size) (h : NextLeft n₀ w l X) (hc : Cellwise B X Y) : NextLeft n₀ w l Y := by
  obtain ⟨pre, x, h1, h2, h3, A, m, c, h4, h5, h6, h7, h8⟩ := h
  exact ⟨pre, x, h1, h2, h3, A, m, c, hc.held h4, hc.owned h5, hc.boxed h6, hc.boxed h7, h8.trans (hc.under hB (Nat.le_trans hw h8.size))⟩

/-- A store into one of the caller's own. -/
theorem spares_put {n₀ m b i : Nat} {X Y : World} (u : Value) (hY : X.setCell ⟨b, i, none⟩ u = Y) (h1 : n₀ ≤ b) (h2 : b < m) : Spares (fun k => n₀ ≤ k ∧ k < m) X Y := hY ▸ (Spares.refl _ X).setCell (p := ⟨b, i, none⟩) ⟨h1, h2⟩ u
theorem whole_put {X Y : World} {g t i : Nat} {cs : Array Value} (u : Value) (h : Whole X g t cs) (hY : X.setCell ⟨g, i, none⟩ u = Y) : Whole Y g t (cs.setIfInBounds i u) := hY ▸ h.put i u
theorem whole_other {X Y : World} {g t b i : Nat} {cs : Array Value} (u : Value) (h : Whole X g t cs) (hY : X.setCell ⟨b, i, none⟩ u = Y) (hne : g ≠ b) : Whole Y g t cs := hY ▸ h.elsewhere (p := ⟨b, i, none⟩) hne u
/-- The three results are stored. -/
theorem next_stored {n₀ : Nat} {X : World} {a b c u0 u1 u2 v v' e e' : Value} (h0 : X.heap[n₀]? = some (.cells #[a, b, c] 56 (0, 0))) (h1 : Boxed X (n₀ + 1) 3 v) (h2 : Boxed X (n₀ + 1 + 1) 51 e) :
    ∃ Y, ((((((X.setCell ⟨n₀, 0, none⟩ u0).setCell ⟨n₀, 1, none⟩ u1).setCell ⟨n₀, 2, none⟩ u2).setCell ⟨n₀ + 1, 0, none⟩ v').setCell ⟨n₀ + 1 + 1, 0, none⟩ e').drew) = Y ∧ Spares (fun k => n₀ ≤ k ∧ k < n₀ + 1 + 1 + 1 + 1) X Y ∧
      Y.heap[n₀]? = some (.cells #[u0, u1, u2] 56 (0, 0)) ∧ Boxed Y (n₀ + 1) 3 v' ∧ Boxed Y (n₀ + 1 + 1) 51 e' := by
  refine ⟨_, rfl, ?_⟩
  have k0 : Whole X n₀ 56 #[a, b, c] := h0
  have k1 : Whole X (n₀ + 1) 3 #[v] := h1
  have k2 : Whole X (n₀ + 1 + 1) 51 #[e] := h2
  clear h0 h1 h2
  generalize h1 : X.setCell ⟨n₀, 0, none⟩ u0 = X1
  generalize h2 : X1.setCell ⟨n₀, 1, none⟩ u1 = X2
  generalize h3 : X2.setCell ⟨n₀, 2, none⟩ u2 = X3
  generalize h4 : X3.setCell ⟨n₀ + 1, 0, none⟩ v' = X4
  generalize h5 : X4.setCell ⟨n₀ + 1 + 1, 0, none⟩ e' = X5
  have s := (((spares_put (n₀ := n₀) (m := n₀ + 1 + 1 + 1 + 1) u0 h1 (by omega) (by omega)).trans (spares_put u1 h2 (by omega) (by omega))).trans (spares_put u2 h3 (by omega) (by omega))).trans ((spares_put v' h4 (by omega) (by omega)).trans (spares_put e' h5 (by omega) (by omega)))
  have f1 : Whole X1 n₀ 56 #[u0, b, c] := whole_put u0 k0 h1
  have f2 : Whole X2 n₀ 56 #[u0, u1, c] := whole_put u1 f1 h2
  have f3 : Whole X3 n₀ 56 #[u0, u1, u2] := whole_put u2 f2 h3
  have f4 : Whole X4 n₀ 56 #[u0, u1, u2] := whole_other v' f3 h4 (by omega)
  have f5 : Whole X5 n₀ 56 #[u0, u1, u2] := whole_other e' f4 h5 (by omega)
  have g1 : Whole X1 (n₀ + 1) 3 #[v] := whole_other u0 k1 h1 (by omega)
  have g2 : Whole X2 (n₀ + 1) 3 #[v] := whole_other u1 g1 h2 (by omega)
  have g3 : Whole X3 (n₀ + 1) 3 #[v] := whole_other u2 g2 h3 (by omega)
  have g4 : Whole X4 (n₀ + 1) 3 #[v'] := whole_put v' g3 h4
  have g5 : Whole X5 (n₀ + 1) 3 #[v'] := whole_other e' g4 h5 (by omega)
  have i1 : Whole X1 (n₀ + 1 + 1) 51 #[e] := whole_other u0 k2 h1 (by omega)
  have i2 : Whole X2 (n₀ + 1 + 1) 51 #[e] := whole_other u1 i1 h2 (by omega)
  have i3 : Whole X3 (n₀ + 1 + 1) 51 #[e] := whole_other u2 i2 h3 (by omega)
  have i4 : Whole X4 (n₀ + 1 + 1) 51 #[e] := whole_other v' i3 h4 (by omega)
  have i5 : Whole X5 (n₀ + 1 + 1) 51 #[e'] := whole_put e' i4 h5
  exact ⟨s.drew, f5, g5, i5⟩
/-- What is the call's own, laid from m on, stays where nothing from m on is written that lies in cells of bytes. -/
theorem owned_spares {n₀ m : Nat} {X Y : World} {t : TypeId} {size : Nat} {v : Value} {n : Nat} {xs : List Value} (hv : X.ownsRow m t size v n xs) (hs : Spares (fun k => n₀ ≤ k ∧ k < m) X Y) : Y.ownsRow m t size v n xs := by
  obtain ⟨h1, h2⟩ := hv
  refine ⟨h1, ?_⟩
  rcases h2 with h2 | ⟨g, cap, cur, hv, hb, hh, r⟩
  · exact .inl h2
  · exact .inr ⟨g, cap, cur, hv, hb, (hs.same g (Array.getElem?_eq_some_iff.1 hh).1 (fun h => by omega)).trans hh, r⟩

end Go.Proofs.Ytdjlhdeejpndcaa
