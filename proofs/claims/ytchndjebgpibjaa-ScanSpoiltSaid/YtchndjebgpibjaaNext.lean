/-
  The walk of scan.Next.
-/
import Derived.Test.YtchndjebgpibjaaIter
namespace Go.Proofs.Ytchndjebgpibjaa
open Go.RowKit Go.Shelf
attribute [local go_sem] Oper.semAt_some

theorem next_out (A : Option Addr) (n c : Nat) (a0 : Int) (w : World) (h : a0 < 0 ∨ (n : Int) < a0) :
    Calls Try.prog 12 #[.slice A n c, .int .i64 a0] w fun e w' => e = .returned (.tuple #[.agg #[.int .i64 0, .int .i64 0, .slice none 0 0], .int .i64 a0, .int .i64 1]) ∧ Below w.heap.size w w' := by
  by_cases h1 : a0 < 0
  · have hd1 : decide (a0 < 0) = true := by simp; omega
    go_enter Try.func12, Try.ntmps12
    go_wp2_with (fail)
    exact bodyPost_ret (v := .tuple #[.agg #[.int .i64 0, .int .i64 0, .slice none 0 0], .int .i64 a0, .int .i64 1]) (by simp [results, Try.results12, go_sem]) rfl ⟨rfl, ((((Below.refl _ _).alloc (Nat.le_refl _) _).alloc (by simp) _).alloc (by simp; omega) _)⟩
  · have hd1 : decide (a0 < 0) = false := by simp; omega
    have hd2 : decide ((n : Int) < a0) = true := by simp; omega
    go_enter Try.func12, Try.ntmps12
    go_wp2_with (fail)
    exact bodyPost_ret (v := .tuple #[.agg #[.int .i64 0, .int .i64 0, .slice none 0 0], .int .i64 a0, .int .i64 1]) (by simp [results, Try.results12, go_sem]) rfl ⟨rfl, ((((Below.refl _ _).alloc (Nat.le_refl _) _).alloc (by simp) _).alloc (by simp; omega) _)⟩

/-- What Next leaves in its results' cells. -/
def NextLeft (n₀ : Nat) (w : World) (l : List Xv) (W : World) : Prop :=
  ∃ pre x, l = pre ++ [x] ∧ (∀ y ∈ pre, y.1.2.2.2 ≠ 0 ∧ y.1.2.1 ≠ 0) ∧ (x.1.2.2.2 = 0 ∨ x.1.2.1 = 0) ∧
    ∃ A m c, W.heap[n₀]? = some (.cells #[.int .i64 ((if x.1.2.2.2 = 0 then x.1.1 else 0 : Nat) : Int), .int .i64 ((if x.1.2.2.2 = 0 then x.1.2.1 else 0 : Nat) : Int), .slice A m c] 29 (0, 0)) ∧
      W.ownsRow n₀ 5 1 (.slice A m c) m ((if x.1.2.2.2 = 0 then x.1.2.2.1 else []).map byteV) ∧ Boxed W (n₀ + 1) 3 (.int .i64 ((x.1.1 + x.1.2.1 : Nat) : Int)) ∧ Boxed W (n₀ + 1 + 1) 25 (.int .i64 (x.1.2.2.2 : Nat)) ∧ Below n₀ w W
def NextHas (n₀ : Nat) (N a0 : Nat) (w : World) (pre : List Xv) (W : World) : Prop :=
  (∀ y ∈ pre, y.1.2.2.2 ≠ 0 ∧ y.1.2.1 ≠ 0) ∧ endE a0 (pre.map (·.1)) ≤ N ∧ Boxed W (n₀ + 1 + 1 + 1) 3 (.int .i64 (endE a0 (pre.map (·.1)) : Nat)) ∧
    W.heap[n₀]? = some (.cells #[.int .i64 0, .int .i64 0, .slice none 0 0] 29 (0, 0)) ∧ Boxed W (n₀ + 1) 3 (.int .i64 0) ∧ Boxed W (n₀ + 1 + 1) 25 (.int .i64 0) ∧ Below n₀ w W

theorem NextHas.stay {n₀ N a0 B : Nat} {w X Y : World} {pre : List Xv} (hB : n₀ ≤ B) (hw : n₀ ≤ w.heap.size) (h : NextHas n₀ N a0 w pre X) (hc : Cellwise B X Y) : NextHas n₀ N a0 w pre Y := by
  obtain ⟨h1, h2, h3, h4, h5, h6, h7⟩ := h
  exact ⟨h1, h2, hc.boxed h3, hc.held h4, hc.boxed h5, hc.boxed h6, h7.trans (hc.under hB (Nat.le_trans hw h7.size))⟩
theorem NextLeft.stay {n₀ B : Nat} {w X Y : World} {l : List Xv} (hB : n₀ ≤ B) (hw : n₀ ≤ w.heap.size) (h : NextLeft n₀ w l X) (hc : Cellwise B X Y) : NextLeft n₀ w l Y := by
  obtain ⟨pre, x, h1, h2, h3, A, m, c, h4, h5, h6, h7, h8⟩ := h
  exact ⟨pre, x, h1, h2, h3, A, m, c, hc.held h4, hc.owned h5, hc.boxed h6, hc.boxed h7, h8.trans (hc.under hB (Nat.le_trans hw h8.size))⟩

/-- A store into one of the caller's own. -/
theorem spares_put {n₀ m b i : Nat} {X Y : World} (u : Value) (hY : X.setCell ⟨b, i, none⟩ u = Y) (h1 : n₀ ≤ b) (h2 : b < m) : Spares (fun k => n₀ ≤ k ∧ k < m) X Y := hY ▸ (Spares.refl _ X).setCell (p := ⟨b, i, none⟩) ⟨h1, h2⟩ u
theorem whole_put {X Y : World} {g t i : Nat} {cs : Array Value} (u : Value) (h : Whole X g t cs) (hY : X.setCell ⟨g, i, none⟩ u = Y) : Whole Y g t (cs.setIfInBounds i u) := hY ▸ h.put i u
theorem whole_other {X Y : World} {g t b i : Nat} {cs : Array Value} (u : Value) (h : Whole X g t cs) (hY : X.setCell ⟨b, i, none⟩ u = Y) (hne : g ≠ b) : Whole Y g t cs := hY ▸ h.elsewhere (p := ⟨b, i, none⟩) hne u
/-- The three results are stored. -/
theorem next_stored {n₀ : Nat} {X : World} {a b c u0 u1 u2 v v' e e' : Value} (h0 : X.heap[n₀]? = some (.cells #[a, b, c] 29 (0, 0))) (h1 : Boxed X (n₀ + 1) 3 v) (h2 : Boxed X (n₀ + 1 + 1) 25 e) :
    ∃ Y, ((((((X.setCell ⟨n₀, 0, none⟩ u0).setCell ⟨n₀, 1, none⟩ u1).setCell ⟨n₀, 2, none⟩ u2).setCell ⟨n₀ + 1, 0, none⟩ v').setCell ⟨n₀ + 1 + 1, 0, none⟩ e').drew) = Y ∧ Spares (fun k => n₀ ≤ k ∧ k < n₀ + 1 + 1 + 1 + 1) X Y ∧
      Y.heap[n₀]? = some (.cells #[u0, u1, u2] 29 (0, 0)) ∧ Boxed Y (n₀ + 1) 3 v' ∧ Boxed Y (n₀ + 1 + 1) 25 e' := by
  refine ⟨_, rfl, ?_⟩
  have k0 : Whole X n₀ 29 #[a, b, c] := h0
  have k1 : Whole X (n₀ + 1) 3 #[v] := h1
  have k2 : Whole X (n₀ + 1 + 1) 25 #[e] := h2
  clear h0 h1 h2
  generalize h1 : X.setCell ⟨n₀, 0, none⟩ u0 = X1
  generalize h2 : X1.setCell ⟨n₀, 1, none⟩ u1 = X2
  generalize h3 : X2.setCell ⟨n₀, 2, none⟩ u2 = X3
  generalize h4 : X3.setCell ⟨n₀ + 1, 0, none⟩ v' = X4
  generalize h5 : X4.setCell ⟨n₀ + 1 + 1, 0, none⟩ e' = X5
  have s := (((spares_put (n₀ := n₀) (m := n₀ + 1 + 1 + 1 + 1) u0 h1 (by omega) (by omega)).trans (spares_put u1 h2 (by omega) (by omega))).trans (spares_put u2 h3 (by omega) (by omega))).trans ((spares_put v' h4 (by omega) (by omega)).trans (spares_put e' h5 (by omega) (by omega)))
  have f1 : Whole X1 n₀ 29 #[u0, b, c] := whole_put u0 k0 h1
  have f2 : Whole X2 n₀ 29 #[u0, u1, c] := whole_put u1 f1 h2
  have f3 : Whole X3 n₀ 29 #[u0, u1, u2] := whole_put u2 f2 h3
  have f4 : Whole X4 n₀ 29 #[u0, u1, u2] := whole_other v' f3 h4 (by omega)
  have f5 : Whole X5 n₀ 29 #[u0, u1, u2] := whole_other e' f4 h5 (by omega)
  have g1 : Whole X1 (n₀ + 1) 3 #[v] := whole_other u0 k1 h1 (by omega)
  have g2 : Whole X2 (n₀ + 1) 3 #[v] := whole_other u1 g1 h2 (by omega)
  have g3 : Whole X3 (n₀ + 1) 3 #[v] := whole_other u2 g2 h3 (by omega)
  have g4 : Whole X4 (n₀ + 1) 3 #[v'] := whole_put v' g3 h4
  have g5 : Whole X5 (n₀ + 1) 3 #[v'] := whole_other e' g4 h5 (by omega)
  have i1 : Whole X1 (n₀ + 1 + 1) 25 #[e] := whole_other u0 k2 h1 (by omega)
  have i2 : Whole X2 (n₀ + 1 + 1) 25 #[e] := whole_other u1 i1 h2 (by omega)
  have i3 : Whole X3 (n₀ + 1 + 1) 25 #[e] := whole_other u2 i2 h3 (by omega)
  have i4 : Whole X4 (n₀ + 1 + 1) 25 #[e] := whole_other v' i3 h4 (by omega)
  have i5 : Whole X5 (n₀ + 1 + 1) 25 #[e'] := whole_put e' i4 h5
  exact ⟨s.drew, f5, g5, i5⟩
/-- What is the call's own, laid from m on, stays where nothing from m on is written that lies in cells of bytes. -/
theorem owned_spares {n₀ m : Nat} {X Y : World} {t : TypeId} {size : Nat} {v : Value} {n : Nat} {xs : List Value} (hv : X.ownsRow m t size v n xs) (hs : Spares (fun k => n₀ ≤ k ∧ k < m) X Y) : Y.ownsRow m t size v n xs := by
  obtain ⟨h1, h2⟩ := hv
  refine ⟨h1, ?_⟩
  rcases h2 with h2 | ⟨g, cap, cur, hv, hb, hh, r⟩
  · exact .inl h2
  · exact .inr ⟨g, cap, cur, hv, hb, (hs.same g (Array.getElem?_eq_some_iff.1 hh).1 (fun h => by omega)).trans hh, r⟩

set_option maxRecDepth 100000 in
set_option maxHeartbeats 4000000 in
theorem next_in (A : Option Addr) (N c : Nat) (bs : List UInt8) (a0 : Nat) (w : World) (hs : Sl w A N c bs) (hN : N ≤ 140737488351232) (ha : a0 ≤ N) :
    Calls Try.prog 12 #[.slice A N c, .int .i64 (a0 : Nat)] w fun e w' => ∃ A' m c', e = .returned (.tuple #[.agg #[.int .i64 ((nextB (bs.drop a0) a0).1.1 : Nat), .int .i64 ((nextB (bs.drop a0) a0).1.2.1 : Nat), .slice A' m c'], .int .i64 ((nextB (bs.drop a0) a0).2.2.1 : Nat), .int .i64 ((nextB (bs.drop a0) a0).2.2.2 : Nat)]) ∧
      w'.ownsRow w.heap.size 5 1 (.slice A' m c') m ((nextB (bs.drop a0) a0).1.2.2.map byteV) ∧ Below w.heap.size w w' := by
  have hd1 : decide ((a0 : Int) < 0) = false := by simp
  have hd2 : decide ((N : Int) < (a0 : Int)) = false := by simp; omega
  have hd3 : ¬ N < a0 := by omega
  have hmix : Try.prog.follows .mixedOrders = true := by kernel_rfl
  have HS := Lib.hid hs
  clear hs
  refine (callsIn_wide (n := 3)).1 ?_
  refine callsIn_of_wp_marks Try.func12 rfl trivial ?_ rfl
  simp only [Try.ntmps12, List.size_toArray, List.length_cons, List.length_nil, Nat.reduceAdd, Nat.reduceSub, Array.replicate_succ, Array.replicate_zero, List.push_toArray, List.append_toArray, List.nil_append, List.cons_append]
  gi_wp2_with (fail)
  refine ⟨trivial, (callsIn_wide.2 (frames_any _ _ _ _ _)).mono ?_⟩
  rintro e V ⟨rfl, hV⟩
  obtain ⟨V1, hV1⟩ : ∃ V1, w.alloc (.cells #[.int .i64 0, .int .i64 0, .slice none 0 0] 29) = V1 := ⟨_, rfl⟩
  obtain ⟨V2, hV2⟩ : ∃ V2, V1.alloc (.cells #[.int .i64 0] 3) = V2 := ⟨_, rfl⟩
  obtain ⟨V3, hV3⟩ : ∃ V3, V2.alloc (.cells #[.int .i64 0] 25) = V3 := ⟨_, rfl⟩
  obtain ⟨V4, hV4⟩ : ∃ V4, V3.alloc (.cells #[.int .i64 (a0 : Nat)] 3) = V4 := ⟨_, rfl⟩
  obtain ⟨V5, hV5⟩ : ∃ V5, V4.alloc (.cells #[.slice A N c] 22) = V5 := ⟨_, rfl⟩
  have s1 : V1.heap.size = w.heap.size + 1 := by rw [← hV1, World.size_alloc]
  have s2 : V2.heap.size = w.heap.size + 1 + 1 := by rw [← hV2, World.size_alloc, s1]
  have s3 : V3.heap.size = w.heap.size + 1 + 1 + 1 := by rw [← hV3, World.size_alloc, s2]
  have s4 : V4.heap.size = w.heap.size + 1 + 1 + 1 + 1 := by rw [← hV4, World.size_alloc, s3]
  have s5 : V5.heap.size = w.heap.size + 1 + 1 + 1 + 1 + 1 := by rw [← hV5, World.size_alloc, s4]
  have g1 : Grows w V1 := hV1 ▸ grows_alloc _ _
  have g2 : Grows V1 V2 := hV2 ▸ grows_alloc _ _
  have g3 : Grows V2 V3 := hV3 ▸ grows_alloc _ _
  have g4 : Grows V3 V4 := hV4 ▸ grows_alloc _ _
  have g5 : Grows V4 V5 := hV5 ▸ grows_alloc _ _
  have b1 : V1.heap[w.heap.size]? = some (.cells #[.int .i64 0, .int .i64 0, .slice none 0 0] 29 (0, 0)) := hV1 ▸ World.alloc_heap_new _ _
  have b2 : Boxed V2 (w.heap.size + 1) 3 (.int .i64 0) := by rw [← s1, ← hV2]; exact Boxed.new _ _ _
  have b3 : Boxed V3 (w.heap.size + 1 + 1) 25 (.int .i64 0) := by rw [← s2, ← hV3]; exact Boxed.new _ _ _
  have b4 : Boxed V4 (w.heap.size + 1 + 1 + 1) 3 (.int .i64 (a0 : Nat)) := by rw [← s3, ← hV4]; exact Boxed.new _ _ _
  have b5 : Boxed V5 (w.heap.size + 1 + 1 + 1 + 1) 22 (.slice A N c) := by rw [← s4, ← hV5]; exact Boxed.new _ _ _
  rw [hV1, hV2, hV3, hV4, hV5] at hV
  rw [hV1, hV2, hV3, hV4]
  have s6 : V.heap.size = w.heap.size + 1 + 1 + 1 + 1 + 1 + 1 := by rw [← hV, World.size_alloc, s5]
  have g6 : Grows V5 V := hV ▸ grows_alloc _ _
  have b6 : Boxed V (w.heap.size + 1 + 1 + 1 + 1 + 1) 3 (.int .i64 (a0 : Nat)) := by rw [← s5, ← hV]; exact Boxed.new _ _ _
  have up : ∀ {W W' : World} {k : Nat} {o : Obj}, W.heap[k]? = some o → Grows W W' → W'.heap[k]? = some o := fun h hg => (hg.block _ (Array.getElem?_eq_some_iff.1 h).1).trans h
  have g56 := g6
  have g46 := Grows.trans g5 g56
  have g36 := Grows.trans g4 g46
  have g26 := Grows.trans g3 g36
  have g16 := Grows.trans g2 g26
  have g06 := Grows.trans g1 g16
  replace b1 := up b1 g16
  replace b2 : Boxed V _ _ _ := up b2 g26
  replace b3 : Boxed V _ _ _ := up b3 g36
  replace b4 : Boxed V _ _ _ := up b4 g46
  replace b5 : Boxed V _ _ _ := up b5 g56
  rw [s4]
  clear hV hV1 hV2 hV3 hV4 hV5 g1 g2 g3 g4 g5 g6 g16 g26 g36 g46 g56 s1 s2 s3 s5 up
  have hgives := frames_gives 2 w.heap.size _ _ A N c bs a0 V (by omega) b6 b5 (HS.out.grow g06) (HS.out.bytes.below g06) hN ha
  have hnV : w.heap.size ≤ V.heap.size := by omega
  have h0 : NextHas w.heap.size N a0 w [] V := ⟨(fun y hy => by cases hy), ha, b4, b1, b2, b3, g06⟩
  have HG := Lib.hid hgives
  have H0 := Lib.hid h0
  have S6 := Lib.hid s6
  clear hgives h0 b1 b2 b3 b4 b5 b6 g06 s6 s4
  gi_wp2_with (fail)
  refine range_law (gf := 23) (lb := #[.pointer (some ⟨w.heap.size + 1 + 1 + 1 + 1 + 1, 0, none⟩), .pointer (some ⟨w.heap.size + 1 + 1 + 1 + 1, 0, none⟩)]) rfl (enters_of Try.func23 (by kernel_rfl) rfl) HG.out (fun _ => rfl)
    w.heap.size (w.heap.size + 1 + 1 + 1 + 1) (by omega) (by rw [S6.out]; omega) (fun k hk => by rw [S6.out]; omega) (NextHas w.heap.size N a0 w) (NextLeft w.heap.size w)
    (fun _ _ _ h hc => h.stay hnV (Nat.le_refl _) hc) (fun _ _ _ h hc => h.stay hnV (Nat.le_refl _) hc) H0.out ?round ?done ?stop
  case round =>
    rintro l pre ⟨⟨xa, xk, xy, xe⟩, xA, xc⟩ W0 W hsz hi hg hgd
    simp only [Nat.reduceSub]
    dsimp only [xVals, xItem]
    gi_wp2_with (fail)
    refine ⟨grows_alloc _ _, fun Wb hcw => ?_⟩
    obtain ⟨hat, hown, hsum, herr, hbig, -⟩ := hgd
    clear hat
    dsimp only at hown hsum herr hbig
    have hbox := hcw.held (World.alloc_heap_new W (.cells #[.int .i64 (xa : Nat), .int .i64 (xk : Nat), .slice xA xy.length xc] 29))
    have hcW : Cellwise V.heap.size W0 Wb := (Cellwise.grows (Grows.trans hg (grows_alloc W _))).trans hcw
    have hownb := hcw.owned (owned_grow hown (grows_alloc W (.cells #[.int .i64 (xa : Nat), .int .i64 (xk : Nat), .slice xA xy.length xc] 29)))
    have hfb : w.heap.size + 1 + 1 + 1 + 1 + 1 + 1 ≤ W.heap.size := by have := hg.size; have := S6.out; omega
    have hownb' := owned_from hownb (show w.heap.size + 1 + 1 + 1 + 1 ≤ W0.heap.size by have := S6.out; omega)
    obtain ⟨p1, p2, p3, p4, p5, p6, p7⟩ := hi.stay hnV (Nat.le_refl _) hcW
    have HP := Lib.hid (And.intro p1 p7)
    clear hcw hown hownb hcW hg hi hsz p1 p7
    generalize W.heap.size = fb at *
    generalize endE a0 (pre.map (·.1)) = en at *
    have c0 := cell_of_row Wb fb 0 _ _ _ hbox
    have c1 := cell_of_row Wb fb 1 _ _ _ hbox
    have c2 := cell_of_row Wb fb 2 _ _ _ hbox
    have r0 := cell_of_row Wb w.heap.size 0 _ _ _ p4
    have r1 := cell_of_row Wb w.heap.size 1 _ _ _ p4
    have r2 := cell_of_row Wb w.heap.size 2 _ _ _ p4
    have t0 := frozen_of_row Wb w.heap.size 0 _ _ p4
    have t1 := frozen_of_row Wb w.heap.size 1 _ _ p4
    have t2 := frozen_of_row Wb w.heap.size 2 _ _ p4
    simp only [List.getElem?_toArray, List.getElem?_cons_zero, List.getElem?_cons_succ] at c0 c1 c2 r0 r1 r2
    have d0 := p5.cell
    have d1 := p5.frozen
    have e0 := p6.cell
    have e1 := p6.frozen
    have q0 := p3.cell
    have q1 := p3.frozen
    have HB := Lib.hid (And.intro hbox (And.intro p3 (And.intro p4 (And.intro p5 p6))))
    have HO := Lib.hid hownb'
    have HGD := Lib.hid (And.intro herr hbig)
    clear hbox p3 p4 p5 p6 hownb' herr hbig
    have hne : fb ≠ w.heap.size := by omega
    have hne1 : fb ≠ w.heap.size + 1 := by omega
    have hne2 : fb ≠ w.heap.size + 1 + 1 := by omega
    have hne3 : fb ≠ w.heap.size + 1 + 1 + 1 := by omega
    by_cases hx : xe = 0
    · subst hx
      gi_wp2_with (fail)
      gi_region_with_o (fail)
      all_goals gi_wp2_with (fail)
      all_goals
        obtain ⟨X, hX⟩ : ∃ X, Wb.setCell ⟨w.heap.size + 1 + 1 + 1, 0, none⟩ (.int .i64 ((xa : Int) + (xk : Int))) = X := ⟨_, rfl⟩
        rw [hX]
        obtain ⟨hb1, hb2, hb3, hb4, hb5⟩ := HB.out
        have hsX := spares_put (n₀ := w.heap.size) (m := w.heap.size + 1 + 1 + 1 + 1) _ hX (by omega) (by omega)
        obtain ⟨Y, hY, hs, y1, y2, y3⟩ := next_stored (n₀ := w.heap.size) (X := X) (u0 := .int .i64 (xa : Nat)) (u1 := .int .i64 (xk : Nat)) (u2 := .slice xA xy.length xc) (v' := .int .i64 ((xa : Int) + (xk : Int))) (e' := .int .i64 0)
          (whole_other _ hb3 hX (by omega)) (whole_other _ hb4 hX (by omega)) (whole_other _ hb5 hX (by omega))
        rw [hY]
        have hsY := hsX.trans hs
        refine ⟨hsY.wider fun k _ hk => .inl hk, ⟨pre, _, rfl, HP.out.1, .inl rfl, xA, xy.length, xc, by simpa using y1, ?_, by rw [Int.natCast_add]; exact y2, y3, ?_⟩⟩
        · rw [if_pos rfl]
          exact owned_from (owned_spares HO.out hsY) (by omega)
        · exact HP.out.2.trans (Spares.below hsY (Nat.le_trans (Nat.le_refl _) HP.out.2.size) (fun k hk h => by omega))
    · have hx0 : ((xe : Int) == 0) = false := by simp; omega
      obtain ⟨X, hX⟩ : ∃ X, Wb.setCell ⟨w.heap.size + 1 + 1 + 1, 0, none⟩ (.int .i64 ((xa : Int) + (xk : Int))) = X := ⟨_, rfl⟩
      obtain ⟨hb1, hb2, hb3, hb4, hb5⟩ := HB.out
      have hsX := spares_put (n₀ := w.heap.size) (m := w.heap.size + 1 + 1 + 1 + 1) _ hX (by omega) (by omega)
      have x1 : X.heap[fb]? = _ := whole_other _ hb1 hX (by omega)
      have x2 : Boxed X _ _ _ := whole_put _ hb2 hX
      have x3 : X.heap[w.heap.size]? = _ := whole_other _ hb3 hX (by omega)
      have x4 : Boxed X _ _ _ := whole_other _ hb4 hX (by omega)
      have x5 : Boxed X _ _ _ := whole_other _ hb5 hX (by omega)
      have HX := Lib.hid (And.intro hsX (And.intro x2 (And.intro x3 (And.intro x4 x5))))
      have HXE := Lib.hid hX
      clear hb1 hb2 hb3 hb4 hb5 hsX x2 x3 x4 x5 hX HB
      have l0 := cell_of_row X fb 0 _ _ _ x1
      have l1 := cell_of_row X fb 1 _ _ _ x1
      have l2 := cell_of_row X fb 2 _ _ _ x1
      simp only [List.getElem?_toArray, List.getElem?_cons_zero, List.getElem?_cons_succ] at l0 l1 l2
      have hk31 : xk ≤ 140737488351232 := by omega
      have hpass := passable_any xa xk xA xy.length xc X hk31
      clear x1
      by_cases hk : xk = 0
      · have hdk : decide (0 < xk) = false := by simp; omega
        rw [hdk] at hpass
        have HK := Lib.hid hk
        clear hk hdk
        gi_wp2_with (first | rw [HXE.out] | fail)
        refine ⟨trivial, (CallsIn.inRound l (callsIn_wide.2 hpass)).mono ?_⟩
        rintro e X2 ⟨rfl, hg2⟩
        obtain ⟨hsX, hb2, hb3, hb4, hb5⟩ := HX.out
        have x2 : Boxed X2 _ _ _ := (hg2.block _ hb2.lt).trans hb2
        have x3 : X2.heap[w.heap.size]? = _ := (hg2.block _ (Array.getElem?_eq_some_iff.1 hb3).1).trans hb3
        have x4 : Boxed X2 _ _ _ := (hg2.block _ hb4.lt).trans hb4
        have x5 : Boxed X2 _ _ _ := (hg2.block _ hb5.lt).trans hb5
        have hsX2 := hsX.trans (Spares.grows hg2)
        clear hsX hb2 hb3 hb4 hb5 hg2 HX
        have m2 := x2.cell
        have m3 := cell_of_row X2 w.heap.size 0 _ _ _ x3
        have m4 := cell_of_row X2 w.heap.size 1 _ _ _ x3
        have m5 := cell_of_row X2 w.heap.size 2 _ _ _ x3
        have n3 := frozen_of_row X2 w.heap.size 0 _ _ x3
        have n4 := frozen_of_row X2 w.heap.size 1 _ _ x3
        have n5 := frozen_of_row X2 w.heap.size 2 _ _ x3
        simp only [List.getElem?_toArray, List.getElem?_cons_zero, List.getElem?_cons_succ] at m3 m4 m5
        have m6 := x4.cell
        have n6 := x4.frozen
        have m7 := x5.cell
        have n7 := x5.frozen
        have HX2 := Lib.hid (And.intro hsX2 (And.intro x2 (And.intro x3 (And.intro x4 x5))))
        clear x2 x3 x4 x5 hsX2 hpass
        gi_wp2_with (fail)
        gi_region_with_o (fail)
        all_goals gi_wp2_with (fail)
        all_goals
          obtain ⟨hsX2, x2, x3, x4, x5⟩ := HX2.out
          obtain ⟨Y, hY, hs, y1, y2, y3⟩ := next_stored (n₀ := w.heap.size) (X := X2) (u0 := .int .i64 0) (u1 := .int .i64 0) (u2 := .slice none 0 0) (v' := .int .i64 ((xa : Int) + (xk : Int))) (e' := .int .i64 (xe : Nat)) x3 x4 x5
          rw [hY]
          have hsY := hsX2.trans hs
          refine ⟨hsY.wider fun k _ hk => .inl hk, ⟨pre, _, rfl, HP.out.1, .inr HK.out, none, 0, 0, ?_, ?_, by rw [Int.natCast_add]; exact y2, y3, ?_⟩⟩
          · dsimp only
            rw [if_neg hx, if_neg hx]
            exact y1
          · rw [if_neg hx]
            exact World.ownsRow_nil _ _ _ _
          · exact HP.out.2.trans (Spares.below hsY HP.out.2.size (fun k hk h => by omega))
      · have hdk : decide (0 < xk) = true := by simp; omega
        rw [hdk] at hpass
        gi_wp2_with (first | rw [HXE.out] | fail)
        refine ⟨trivial, (CallsIn.inRound l (callsIn_wide.2 hpass)).mono ?_⟩
        rintro e X2 ⟨rfl, hg2⟩
        obtain ⟨hsX, hb2, hb3, hb4, hb5⟩ := HX.out
        have x2 : Boxed X2 _ _ _ := (hg2.block _ hb2.lt).trans hb2
        have x3 : X2.heap[w.heap.size]? = _ := (hg2.block _ (Array.getElem?_eq_some_iff.1 hb3).1).trans hb3
        have x4 : Boxed X2 _ _ _ := (hg2.block _ hb4.lt).trans hb4
        have x5 : Boxed X2 _ _ _ := (hg2.block _ hb5.lt).trans hb5
        have hsX2 := hsX.trans (Spares.grows hg2)
        clear hsX hb2 hb3 hb4 hb5 hg2 HX
        have HX2 := Lib.hid (And.intro hsX2 (And.intro x2 (And.intro x3 (And.intro x4 x5))))
        clear x2 x3 x4 x5 hsX2 hpass
        gi_wp2_with (fail)
        obtain ⟨hsX2, x2, x3, x4, x5⟩ := HX2.out
        refine ⟨hsX2.wider fun k _ hk => .inl hk, ⟨?_, ?_, ?_, x3, x4, x5, HP.out.2.trans (Spares.below hsX2 HP.out.2.size (fun k hk h => by omega))⟩⟩
        · intro y hy
          rcases List.mem_append.1 hy with hy | hy
          · exact HP.out.1 y hy
          · rw [List.mem_singleton.1 hy]; exact ⟨hx, hk⟩
        · rw [List.map_append, List.map_singleton, endE_snoc]; exact hsum
        · rw [List.map_append, List.map_singleton, endE_snoc]; dsimp only; rw [Int.natCast_add]; exact x2
  case done =>
    intro D xs W hD hS hi hK
    obtain ⟨p1, p2, p3, p4, p5, p6, p7⟩ := hi
    have hres := nextE_run (xs.map (·.1)) [] a0 (fun y hy => by
      obtain ⟨x, hx, rfl⟩ := List.mem_map.1 hy
      exact p1 x hx)
    have hnext : nextB (bs.drop a0) a0 = ((0, 0, []), (xs.map (·.1)).length + 0, endE a0 (xs.map (·.1)), 0) := by
      unfold nextB
      rw [← hS]
      rw [List.append_nil] at hres
      exact hres
    generalize endE a0 (xs.map (·.1)) = en at *
    have q0 := p3.cell
    have r0 := cell_of_row W w.heap.size 0 _ _ _ p4
    have r1 := cell_of_row W w.heap.size 1 _ _ _ p4
    have r2 := cell_of_row W w.heap.size 2 _ _ _ p4
    have t0 := frozen_of_row W w.heap.size 0 _ _ p4
    have t1 := frozen_of_row W w.heap.size 1 _ _ p4
    have t2 := frozen_of_row W w.heap.size 2 _ _ p4
    simp only [List.getElem?_toArray, List.getElem?_cons_zero, List.getElem?_cons_succ] at r0 r1 r2
    have d0 := p5.cell
    have d1 := p5.frozen
    have e0 := p6.cell
    have e1 := p6.frozen
    have HP := Lib.hid (And.intro p4 (And.intro p5 (And.intro p6 p7)))
    have HK := Lib.hid hK
    have HNX := Lib.hid hnext
    clear p1 p3 p4 p5 p6 p7 hK hres hnext hS
    gi_wp2_with (fail)
    refine wpIn_calm ?_
    gi_region_with_o (fail)
    all_goals simp only [calm]
    all_goals gi_wp2_with (fail)
    all_goals
      obtain ⟨x3, x4, x5, x7⟩ := HP.out
      obtain ⟨Y, hY, hs, y1, y2, y3⟩ := next_stored (n₀ := w.heap.size) (X := W) (u0 := .int .i64 0) (u1 := .int .i64 0) (u2 := .slice none 0 0) (v' := .int .i64 (en : Nat)) (e' := .int .i64 0) x3 x4 x5
      rw [hY]
      have hKY : Y.heap[D]? = some (.deferred (some [])) := (hs.same D (Array.getElem?_eq_some_iff.1 HK.out).1 (fun h => by have := S6.out; omega)).trans HK.out
      refine ⟨by simp, .inl ⟨_, _, rfl, run_takeDeferred hKY, ?_⟩⟩
      have hcw : Cellwise V.heap.size Y (Y.putObj D (.deferred none)) := .putObj hKY rfl hD _
      have y1' := hcw.held y1
      have c0 := cell_of_row _ w.heap.size 0 _ _ _ y1'
      have c1 := cell_of_row _ w.heap.size 1 _ _ _ y1'
      have c2 := cell_of_row _ w.heap.size 2 _ _ _ y1'
      simp only [List.getElem?_toArray, List.getElem?_cons_zero, List.getElem?_cons_succ] at c0 c1 c2
      have c3 := (hcw.boxed y2).cell
      have c4 := (hcw.boxed y3).cell
      rw [HNX.out]
      refine ⟨_, by simp [results, Try.results12, go_sem, c0, c1, c2, c3, c4], none, 0, 0, rfl, World.ownsRow_nil _ _ _ _, x7.trans ((Spares.below hs x7.size (fun k hk h => by omega)).trans (hcw.under hnV (Nat.le_trans x7.size hs.size)))⟩
  case stop =>
    rintro D l W hD ⟨r, hr⟩ ⟨pre, ⟨⟨xa, xk, xy, xe⟩, xA, xc⟩, rfl, p1, p2, A', m, c', p4, p5, p6, p7, p8⟩ hK
    have hres := nextE_run (pre.map (·.1)) ((xa, xk, xy, xe) :: r) a0 (fun y hy => by
      obtain ⟨x, hx, rfl⟩ := List.mem_map.1 hy
      exact p1 x hx)
    rw [List.map_append, List.map_singleton, List.append_assoc, List.singleton_append] at hr
    rw [hr] at hres
    dsimp only at p2 p4 p5 p6 p7
    have hnext : (nextB (bs.drop a0) a0).1 = (if xe = 0 then xa else 0, if xe = 0 then xk else 0, if xe = 0 then xy else []) ∧ (nextB (bs.drop a0) a0).2.2.1 = xa + xk ∧ (nextB (bs.drop a0) a0).2.2.2 = xe := by
      unfold nextB
      rw [hres]
      by_cases hx : xe = 0
      · subst hx
        simp [nextE]
      · have hk := p2.resolve_left hx
        subst hk
        simp [nextE, hx]
    have HN := Lib.hid hnext
    have HP := Lib.hid (And.intro p4 (And.intro p5 (And.intro p6 (And.intro p7 p8))))
    have HK := Lib.hid hK
    clear hres hnext hr p1 p2 p4 p5 p6 p7 p8 hK
    gi_wp2_with (fail)
    obtain ⟨x3, x5, x6, x7, x8⟩ := HP.out
    refine ⟨by simp, .inl ⟨_, _, rfl, run_takeDeferred HK.out, ?_⟩⟩
    have hcw : Cellwise V.heap.size W (W.putObj D (.deferred none)) := .putObj HK.out rfl hD _
    have y1' := hcw.held x3
    have c0 := cell_of_row _ w.heap.size 0 _ _ _ y1'
    have c1 := cell_of_row _ w.heap.size 1 _ _ _ y1'
    have c2 := cell_of_row _ w.heap.size 2 _ _ _ y1'
    simp only [List.getElem?_toArray, List.getElem?_cons_zero, List.getElem?_cons_succ] at c0 c1 c2
    have c3 := (hcw.boxed x6).cell
    have c4 := (hcw.boxed x7).cell
    rw [HN.out.1, HN.out.2.1, HN.out.2.2]
    dsimp only
    refine ⟨_, by simp [results, Try.results12, go_sem, c0, c1, c2, c3, c4], A', m, c', rfl, hcw.owned x5, x8.trans (hcw.under hnV (Nat.le_trans (Nat.le_refl _) x8.size))⟩
end Go.Proofs.Ytchndjebgpibjaa
