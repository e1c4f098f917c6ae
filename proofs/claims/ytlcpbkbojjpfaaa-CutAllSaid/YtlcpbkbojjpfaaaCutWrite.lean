/-
  Write of package cut: all pieces, in order; what is left.
-/
import Derived.Test.YtlcpbkbojjpfaaaCutIter
import Derived.Laws.OwnMore
import Derived.Shelf.Abstract
namespace Go.Proofs.Ytlcpbkbojjpfaaa
open Go.RowKit Go.Shelf
set_option linter.unusedVariables false
set_option linter.unusedSimpArgs false
attribute [local go_sem] Oper.semAt_some

theorem infoRow : (Try.prog.info? 23).map (fun i => (i.zero, i.size, i.bytes)) = some (some (.slice none 0 0), 1, 24) := by kernel_rfl

/-- Pieces that were made, each in memory of its own. -/
structure Laid (w : World) (base P : Nat) (v : Value) (B : Nat) (xs : List Xp) : Prop where
  rows : ∀ x ∈ xs, x.1.2.1 = P ∧ w.ownsRow base 5 1 (slV x.1) P (x.2.map byteV)
  blks : ∀ x ∈ xs, ∀ k, (slV x.1).ownBlock = some k → v.ownBlock = some k ∨ B ≤ k
  pair : xs.Pairwise fun x y => ∀ k, (slV x.1).ownBlock = some k → (slV y.1).ownBlock ≠ some k
theorem Laid.nil (w : World) (base P : Nat) (v : Value) (B : Nat) : Laid w base P v B [] := ⟨fun x hx => (by cases hx), fun x hx => (by cases hx), .nil⟩
theorem Laid.keep {w w' : World} {base P B : Nat} {v : Value} {xs : List Xp} (h : Laid w base P v B xs) (hk : ∀ x ∈ xs, ∀ k, (slV x.1).ownBlock = some k → w'.heap[k]? = w.heap[k]?) : Laid w' base P v B xs :=
  ⟨fun x hx => ⟨(h.rows x hx).1, owned_same (h.rows x hx).2 (hk x hx)⟩, h.blks, h.pair⟩

/-- What Write has between two rounds. -/
structure PutHas (w : World) (g base P : Nat) (v : Value) (T : List UInt8) (pre : List Xp) (W : World) : Prop where
  list : ∃ A c, Boxed W w.heap.size 51 (.slice A pre.length c) ∧ W.ownsRow (w.heap.size + 1 + 1 + 1) 23 1 (.slice A pre.length c) pre.length (pre.map fun x => slV x.1)
  laid : Laid W base P v (w.heap.size + 1 + 1 + 1) pre
  many : pre.length * P ≤ T.length
  low : Spares (fun k => k = g ∨ v.ownBlock = some k) w W
  size : w.heap.size + 1 + 1 + 1 ≤ W.heap.size

theorem PutHas.cellwise {w W W' : World} {g base P B : Nat} {v : Value} {T : List UInt8} {pre : List Xp} (hB : w.heap.size ≤ B) (h : PutHas w g base P v T pre W) (hc : Cellwise B W W') : PutHas w g base P v T pre W' := by
  obtain ⟨⟨A, c, h1, h2⟩, ⟨r1, r2, r3⟩, h4, h5, h6⟩ := h
  refine ⟨⟨A, c, hc.boxed h1, hc.owned h2⟩, ⟨fun x hx => ⟨(r1 x hx).1, hc.owned (r1 x hx).2⟩, r2, r3⟩, h4, ⟨hc.os.trans h5.os, hc.tape.trans h5.tape, hc.output.trans h5.output, Nat.le_trans h5.size hc.size, fun k hk hne => (hc.low (Nat.lt_of_lt_of_le hk h5.size) (by omega)).trans (h5.same k hk hne)⟩, Nat.le_trans h6 hc.size⟩
theorem PutHas.own {w W W' : World} {g base P Bb : Nat} {v : Value} {T : List UInt8} {pre : List Xp} (hvg : v.ownBlock ≠ some g) (hBb : Bb = w.heap.size + 1 + 1) (hgw : g < w.heap.size) (hv : ∀ k, v.ownBlock = some k → k < w.heap.size)
    (h : PutHas w g base P v T pre W) (hc : Spares (ownC g Bb v pre) W W') : PutHas w g base P v T pre W' := by
  obtain ⟨⟨A, c, h1, h2⟩, h3, h4, h5, h6⟩ := h
  have hn : ∀ k, w.heap.size ≤ k → k ≠ Bb → k < W.heap.size → W'.heap[k]? = W.heap[k]? := fun k hk hne hlt => hc.same k hlt (by
    rintro (e | e | ⟨_, e⟩)
    · omega
    · exact hne e
    · have := hv k e; omega)
  refine ⟨⟨A, c, (hn _ (Nat.le_refl _) (by omega) h1.lt).trans h1, owned_same h2 fun k hk => hn k (by have := (owned_lt h2 hk).1; omega) (by have := (owned_lt h2 hk).1; omega) (owned_lt h2 hk).2⟩, h3.keep fun x hx k hk => ?_, h4, ?_, Nat.le_trans h6 hc.size⟩
  · have hlt := (owned_lt (h3.rows x hx).2 hk).2
    refine hc.same k hlt ?_
    rintro (e | e | ⟨e, _⟩)
    · rcases h3.blks x hx k hk with h | h
      · exact hvg (e ▸ h)
      · omega
    · rcases h3.blks x hx k hk with h | h
      · have := hv k h; omega
      · omega
    · subst e; cases hx
  · refine ⟨hc.os.trans h5.os, hc.tape.trans h5.tape, hc.output.trans h5.output, Nat.le_trans h5.size hc.size, fun k hk hne => ?_⟩
    rw [← h5.same k hk hne]
    refine hc.same k (Nat.lt_of_lt_of_le hk h5.size) ?_
    rintro (e | e | ⟨_, e⟩)
    · exact hne (.inl e)
    · omega
    · exact hne (.inr e)

theorem mine_rowC {n₀ m n₁ : Nat} {w : World} {e : TypeId} {size : Nat} {v : Value} {n : Nat} {xs : List Value} (h : w.ownsRow n₁ e size v n xs) : ∀ g, v.ownBlock = some g → n₁ ≤ g ∧ Mine n₀ m n₁ w g := by
  intro g hg
  rcases h.2 with ⟨rfl, _⟩ | ⟨g', cap, cur, rfl, hb, hh, _⟩
  · simp [Value.ownBlock] at hg
  · obtain rfl : g' = g := by simpa [Value.ownBlock] using hg
    exact ⟨hb, .inr ⟨hb, _, _, _, hh⟩⟩
theorem own_apartC {w : World} {b1 b2 : Nat} {e1 e2 : TypeId} {s1 s2 : Nat} {v1 v2 : Value} {n1 n2 : Nat} {xs1 xs2 : List Value} (h1 : w.ownsRow b1 e1 s1 v1 n1 xs1) (h2 : w.ownsRow b2 e2 s2 v2 n2 xs2) (hne : e1 ≠ e2) : v1.ownBlock = none ∨ v1.ownBlock ≠ v2.ownBlock := by
  rcases h1.2 with ⟨rfl, _⟩ | ⟨g, cap, cur, rfl, _, hg, _⟩
  · exact .inl rfl
  refine .inr fun e => ?_
  rcases h2.2 with ⟨rfl, _⟩ | ⟨g', cap', cur', rfl, _, hg', _⟩
  · simp [Value.ownBlock] at e
  · obtain rfl : g = g' := by simpa [Value.ownBlock] using e
    rw [hg] at hg'
    injection hg' with hg'
    injection hg' with _ ht _
    exact hne ht
/-- A literal's one value, in a block of its own. -/
theorem one_at {w : World} {g ty : Nat} {u : Value} (hw : Whole w g ty #[u]) : ∀ j x, [u][j]? = some x → w.cell? ((⟨g, 0, none⟩ : Addr).add j) = some x := by
  intro j x hj
  rw [show (⟨g, 0, none⟩ : Addr).add j = ⟨g, j, none⟩ by unfold Addr.add; split <;> simp_all, hw.cell j]
  simpa using hj

set_option maxRecDepth 100000 in
set_option maxHeartbeats 4000000 in
theorem write_cut (g base P Z : Nat) (v : Value) (L : List UInt8) (A : Option Addr) (n c : Nat) (bs : List UInt8) (w : World) (h : CutHas w g base P Z v L) (hs : Sl w A n c bs) (hA : 0 < n → ∀ ad, A = some ad → ad.block ≠ g ∧ v.ownBlock ≠ some ad.block)
    (hP : P ≤ 4096) (hn : n ≤ 1000000) (hZ : Z ≤ 1000000000) (hbase : base ≤ w.heap.size) :
    Calls Try.prog 35 #[.pointer (some ⟨g, 0, none⟩), .slice A n c] w fun e w' => ∃ A' c' xs v', e = .returned (.slice A' xs.length c') ∧ w'.ownsRow w.heap.size 23 1 (.slice A' xs.length c') xs.length (xs.map fun x => slV x.1) ∧
      Laid w' base P v w.heap.size xs ∧ xs.map (·.2) = piecesB P (L ++ bs) ∧ CutHas w' g base P (Z + n) v' (restB P (L ++ bs)) ∧ Spares (fun k => k = g ∨ v.ownBlock = some k) w w' ∧
      (∀ k, v'.ownBlock = some k → (xs = [] ∧ v.ownBlock = some k) ∨ (w.heap.size ≤ k ∧ ∀ x ∈ xs, (slV x.1).ownBlock ≠ some k)) := by
  have c1 := h.cells.cell 1
  have f1 := h.cells.free 1
  simp only [List.getElem?_toArray, List.getElem?_cons_zero, List.getElem?_cons_succ] at c1
  have KW : Hid (IntKind.i64.wrap ((Z : Int) + (n : Int)) = (Z : Int) + (n : Int)) := Lib.hid (IntWalk.i64_in _ (by omega))
  have KW2 : Hid (wrap64 ((Z : Int) + (n : Int)) = (Z : Int) + (n : Int)) := Lib.hid (IntWalk.wrap64_in _ (by omega))
  have kw := KW.out
  have kw2 := KW2.out
  obtain ⟨W1, hW1⟩ : ∃ W1, w.setCell ⟨g, 1, none⟩ (.int .i64 ((Z : Int) + (n : Int))) = W1 := ⟨_, rfl⟩
  have HX := Lib.hid hW1
  have HH := Lib.hid (And.intro h (And.intro hs hA))
  clear h hs hA hW1
  refine (callsIn_wide (n := 3)).1 ?_
  refine callsIn_of_wp_marks Try.func35 rfl trivial ?_ rfl
  simp only [Try.ntmps35, List.size_toArray, List.length_cons, List.length_nil, Nat.reduceAdd, Nat.reduceSub, Array.replicate_succ, Array.replicate_zero, List.push_toArray, List.append_toArray, List.nil_append, List.cons_append]
  gi_wp2_with (first | rw [HX.out] | fail)
  obtain ⟨h, hs, hA⟩ := HH.out
  have hsz : W1.heap.size = w.heap.size := by rw [← HX.out]; simp [World.setCell]
  have hc1 : CutHas W1 g base P (Z + n) v L := by
    rw [← HX.out]
    refine ⟨?_, owned_same h.left fun k hk => Below.heap_setCell _ _ _ k fun e => h.apart (by rw [hk, e]), h.short⟩
    rw [Int.natCast_add]
    exact h.cells.put 1 _
  have hs1 : Sl W1 A n c bs := hs.kept (by omega) fun hn0 ad e => by rw [← HX.out]; exact Below.heap_setCell _ _ _ _ (hA hn0 ad e).1
  have low1 : Spares (fun k => k = g ∨ v.ownBlock = some k) w W1 := by rw [← HX.out]; exact (Spares.refl _ w).setCell (p := ⟨g, 1, none⟩) (.inl rfl) _
  have hgw : g < w.heap.size := h.cells.lt
  have hvlt : ∀ k, v.ownBlock = some k → k < w.heap.size := fun k hk => (owned_lt h.left hk).2
  have hvg := h.apart
  have hAlt : 0 < n → ∀ ad, A = some ad → ad.block < w.heap.size := fun hn0 ad e => by
    obtain ⟨ad', e', hb, _⟩ := hs.bytes.spot (k := 0) hn0
    rw [e] at e'
    injection e' with e'
    rw [e']
    exact hb
  refine ⟨trivial, (callsIn_wide.2 (full_cut (n := n) (c := c) (A := A) (g := g) _)).mono ?_⟩
  rintro e V ⟨rfl, hV⟩
  obtain ⟨V1, hV1⟩ : ∃ V1, W1.alloc (.cells #[.slice none 0 0] 51) = V1 := ⟨_, rfl⟩
  obtain ⟨V2, hV2⟩ : ∃ V2, V1.alloc (.cells #[.pointer (some ⟨g, 0, none⟩)] 44) = V2 := ⟨_, rfl⟩
  have s1 : V1.heap.size = w.heap.size + 1 := by rw [← hV1, World.size_alloc, hsz]
  have g1 : Grows W1 V1 := hV1 ▸ grows_alloc _ _
  have s2 : V2.heap.size = w.heap.size + 1 + 1 := by rw [← hV2, World.size_alloc, s1]
  have g2 : Grows V1 V2 := hV2 ▸ grows_alloc _ _
  have b1 : Boxed V1 w.heap.size 51 (.slice none 0 0) := by rw [← hsz, ← hV1]; exact Boxed.new _ _ _
  have b2 : Boxed V2 (w.heap.size + 1) 44 (.pointer (some ⟨g, 0, none⟩)) := by rw [← s1, ← hV2]; exact Boxed.new _ _ _
  rw [hV1, hV2] at hV
  rw [hV1]
  have s3 : V.heap.size = w.heap.size + 1 + 1 + 1 := by rw [← hV, World.size_alloc, s2]
  have g3 : Grows V2 V := hV ▸ grows_alloc _ _
  have b3 : Boxed V (w.heap.size + 1 + 1) 23 (.slice A n c) := by rw [← s2, ← hV]; exact Boxed.new _ _ _
  have up : ∀ {W W' : World} {k : Nat} {o : Obj}, W.heap[k]? = some o → Grows W W' → W'.heap[k]? = some o := fun h hg => (hg.block _ (Array.getElem?_eq_some_iff.1 h).1).trans h
  replace b2 : Boxed V _ _ _ := up b2 g3
  replace b1 : Boxed V _ _ _ := up b1 (Grows.trans g2 g3)
  have g13 := Grows.trans g1 (Grows.trans g2 g3)
  rw [hsz, s1]
  have hgives := full_gives 2 (w.heap.size + 1) (w.heap.size + 1 + 1) g base P (Z + n) v A n c L bs V b2 b3 (hc1.grow g13) (hs1.grow g13)
    (fun hn0 ad e => ⟨(hA hn0 ad e).1, by have := hAlt hn0 ad e; omega, (hA hn0 ad e).2, by have := hAlt hn0 ad e; omega⟩) ⟨fun e => by have := hvlt _ e; omega, fun e => by have := hvlt _ e; omega, by omega⟩ hP (by omega) (by omega)
  have h0 : PutHas w g base P v (L ++ bs) [] V := ⟨⟨none, 0, b1, World.ownsRow_nil _ _ _ _⟩, Laid.nil _ _ _ _ _, by simp, low1.trans (Spares.grows g13), by omega⟩
  have hTL : (L ++ bs).length ≤ 2000000 := by have := h.short; rw [List.length_append, hs.len]; omega
  have hP0 : 0 < P := by have := h.short; omega
  have HG := Lib.hid hgives
  have H0 := Lib.hid h0
  have S3 := Lib.hid s3
  have HV := Lib.hid (And.intro hgw (And.intro hvlt (And.intro hvg hAlt)))
  clear hgives h0 b1 b2 b3 g1 g2 g3 g13 s1 s2 s3 hV hV1 hV2 up hc1 hs1 low1 h hs hA hgw hvlt hvg hAlt hsz HH HX c1 f1
  generalize hT : L ++ bs = T at *
  have HTT := Lib.hid hT
  clear hT
  gi_wp2_with (fail)
  refine range_lawM (gf := 70) (lb := #[.pointer (some ⟨w.heap.size + 1 + 1, 0, none⟩), .pointer (some ⟨w.heap.size + 1, 0, none⟩)]) rfl (enters_of Try.func70 (by kernel_rfl) rfl) HG.out
    (fun s k hk => ?own) (fun _ => rfl) w.heap.size (w.heap.size + 1) (by omega) (by rw [S3.out]; omega) (fun k hk => ?safe) (PutHas w g base P v T) (fun _ _ => False)
    (fun _ _ _ h hc => h.cellwise (by rw [S3.out]; omega) hc) (fun _ _ _ h hc => h.own HV.out.2.2.1 rfl HV.out.1 HV.out.2.1 hc) (fun _ _ _ h _ => h) H0.out ?round ?done ?stop
  case own =>
    obtain ⟨q1, q2, _, _⟩ := HV.out
    rw [S3.out]
    rcases hk with rfl | rfl | ⟨_, hk⟩
    · omega
    · omega
    · have := q2 k hk; omega
  case safe =>
    obtain ⟨q1, q2, _, q4⟩ := HV.out
    rw [S3.out]
    rcases hk with rfl | rfl | rfl | ⟨_, _, _, _, ad, e, hn0, rfl⟩
    · omega
    · omega
    · omega
    · have := q4 hn0 ad e; omega
  case stop => exact fun D pre W _ _ h _ => h.elim
  case round =>
    rintro l pre ⟨⟨xA, xm, xc⟩, xb⟩ W0 W hsz0 hi hg hgd
    simp only [Nat.reduceSub]
    dsimp only [hdVals, slV]
    gi_wp2_with (fail)
    refine ⟨Grows.refl _, fun Wb hcw => ?_⟩
    obtain ⟨hxb, hxm, hxo, hxk⟩ := hgd
    dsimp only at hxb hxm hxo hxk
    subst hxm
    obtain ⟨q1, q2, q3, _⟩ := HV.out
    have hi' := (hi.own q3 rfl q1 q2 hg).cellwise (by rw [S3.out]; omega) hcw
    obtain ⟨LA, lc, lb0, lo0⟩ := hi.list
    have hsame : ∀ k, w.heap.size ≤ k → k ≠ w.heap.size + 1 + 1 → k < W0.heap.size → W.heap[k]? = W0.heap[k]? := fun k hk hne hlt => hg.same k hlt (by
      rintro (e | e | ⟨_, e⟩)
      · omega
      · exact hne e
      · have := q2 k e; omega)
    have lb : Boxed Wb w.heap.size 51 (.slice LA pre.length lc) := hcw.boxed ((hsame _ (Nat.le_refl _) (by omega) lb0.lt).trans lb0)
    have lo := hcw.owned (owned_same (w' := W) lo0 fun k hk => hsame k (by have := (owned_lt lo0 hk).1; omega) (by have := (owned_lt lo0 hk).1; omega) (owned_lt lo0 hk).2)
    have hmine := mine_rowC (n₀ := w.heap.size) (m := w.heap.size + 1) (by rw [← S3.out] at lo0; exact lo0)
    have hx := hcw.owned hxo
    have hW0 : V.heap.size ≤ W0.heap.size := hsz0
    have hWb : W0.heap.size ≤ Wb.heap.size := Nat.le_trans hg.size hcw.size
    have hcnt : (pre.length + 1) * xm ≤ T.length := by
      have h1 := hxo.1
      rw [hxb, List.length_map] at h1
      have h2 : (pieceB xm T pre.length).length = xm := by omega
      unfold pieceB at h2
      rw [List.length_take, List.length_drop] at h2
      have := hi.many
      rw [Nat.add_mul]
      omega
    have hcnt2 : pre.length ≤ 2000000 := by
      have : pre.length * 1 ≤ pre.length * xm := Nat.mul_le_mul_left _ hP0
      have := hi.many
      omega
    obtain ⟨i0, hi0, hz0, hz1, hz2⟩ := info_parts infoRow
    have HI := Lib.hid (And.intro hi0 (And.intro hz0 (And.intro hz1 hz2)))
    have l1 := lb.cell
    have HB := Lib.hid (And.intro lb (And.intro lo (And.intro hmine (And.intro hi' (And.intro hx (And.intro hxk (And.intro hW0 (And.intro hWb (And.intro hcnt hxb)))))))))
    have HCNT := Lib.hid hcnt2
    have HOLD := Lib.hid (show ∀ y ∈ pre, ∀ k, (slV y.1).ownBlock = some k → k < W0.heap.size from fun y hy k hk => (owned_lt (hi.laid.rows y hy).2 hk).2)
    have HLO := Lib.hid (show w.heap.size + 1 + 1 + 1 ≤ Wb.heap.size by have := S3.out; omega)
    clear hi hg hsz0 hcw hi' lb0 lo0 hsame lb lo hmine hx hxo hxk hcnt hxb hi0 hz0 hz1 hz2 q1 q2 q3 hW0 hWb hcnt2
    gi_wp2_with (first
      | (gi_at_builtin
         refine wpListIn_append_own _ rfl (.tmp 20) (.tmp 22) 51 rfl (w.heap.size + 1 + 1 + 1) 23 i0 (.slice none 0 0) 1 24 Try.underlying51 HI.out.1 HI.out.2.1 HI.out.2.2.1 HI.out.2.2.2 rfl (by decide) (.slice LA pre.length lc) pre.length (pre.map fun x => slV x.1) rfl
           (HB.out.2.1.alloc _) ⟨Wb.heap.size, 0, none⟩ 1 1 [.slice xA xm xc] rfl rfl (one_at (Whole.made Wb _ _)) (by intro u hu; rw [List.mem_singleton.1 hu]; rfl) (by unfold maxLen; have := HCNT.out; omega) (by have := HCNT.out; omega) (by rw [World.size_alloc]; have := HLO.out; omega) ?_
         intro v1 w1 hown1 hgrow1 _
         obtain ⟨g1, cap1, rfl⟩ := ownsRow_succ hown1
         have y4 : Boxed w1 w.heap.size 51 (.slice LA pre.length lc) := (HB.out.1.alloc _).kept hgrow1 (fun e => by have := (HB.out.2.2.1 _ e.symm).1; have := S3.out; omega)
         have z4 := y4.cell
         have z5 := y4.frozen
         have HY4 := Lib.hid y4
         have HOWN1 := Lib.hid hown1
         have HGR1 := Lib.hid hgrow1
         clear y4 hown1 hgrow1)
      | fail)
    obtain ⟨lb, lo, hmine, hi', hx, hxk, hW0, hWb, hcnt, hxb⟩ := HB.out
    obtain ⟨Y, hY⟩ : ∃ Y, w1.setCell ⟨w.heap.size, 0, none⟩ (.slice (some ⟨g1, 0, none⟩) (pre.length + 1) cap1) = Y := ⟨_, rfl⟩
    rw [hY]
    have s3 := S3.out
    have hla : ∀ k, (Value.slice LA pre.length lc).ownBlock = some k → w.heap.size + 1 + 1 + 1 ≤ k := fun k hk => (owned_lt lo hk).1
    have hkeep : ∀ k, k < Wb.heap.size → k ≠ w.heap.size → (Value.slice LA pre.length lc).ownBlock ≠ some k → Y.heap[k]? = Wb.heap[k]? := fun k hk h1 h2 => by
      rw [← hY, Below.heap_setCell _ _ _ _ h1, HGR1.out.block k (by rw [World.size_alloc]; omega) (fun e => h2 e.symm)]
      exact Below.heap_alloc _ _ _ hk
    have hszY : Y.heap.size = w1.heap.size := by rw [← hY]; simp [World.setCell]
    have hsz1 : Wb.heap.size + 1 ≤ w1.heap.size := by have := HGR1.out.size; rwa [World.size_alloc] at this
    have hrow : ∀ (u : Value) (m : Nat) (ys : List Value), Wb.ownsRow base 5 1 u m ys → Y.ownsRow base 5 1 u m ys := fun u m ys h => owned_same h fun k hk => by
      refine hkeep k (owned_lt h hk).2 (fun e => owned_type h (show Whole Wb w.heap.size _ _ from lb) (by decide) (by rw [hk, e])) fun e => ?_
      rcases own_apartC h lo (by decide) with h0 | h0
      · rw [h0] at hk; cases hk
      · exact h0 (hk.trans e.symm)
    refine ⟨(((Spares.refl _ Wb).alloc _).grown HGR1.out (fun k hk => (hmine k hk).2)).trans (hY ▸ (Spares.refl _ w1).setCell (p := ⟨w.heap.size, 0, none⟩) (.inl ⟨Nat.le_refl _, Nat.lt_succ_self _⟩) _), ⟨?_, ⟨?_, ?_, ?_⟩, ?_, ?_, ?_⟩⟩
    · refine ⟨some ⟨g1, 0, none⟩, cap1, ?_, ?_⟩
      · rw [List.length_append, List.length_singleton, ← hY]
        exact Whole.put (show Whole w1 w.heap.size _ #[_] from HY4.out) 0 _
      · rw [List.length_append, List.length_singleton, List.map_append, List.map_singleton, ← hY]
        refine owned_same HOWN1.out fun k hk => Below.heap_setCell _ _ _ _ ?_
        have := (owned_lt HOWN1.out hk).1
        dsimp only
        omega
    · intro y hy
      rcases List.mem_append.1 hy with hy | hy
      · exact ⟨(hi'.laid.rows y hy).1, hrow _ _ _ (hi'.laid.rows y hy).2⟩
      · rw [List.mem_singleton.1 hy]
        exact ⟨rfl, hrow _ _ _ hx⟩
    · intro y hy k hk
      rcases List.mem_append.1 hy with hy | hy
      · exact hi'.laid.blks y hy k hk
      · rw [List.mem_singleton.1 hy] at hk
        rcases hxk k hk with h | h
        · exact .inl h.2
        · right; omega
    · refine List.pairwise_append.2 ⟨hi'.laid.pair, List.pairwise_singleton _ _, fun y hy z hz k hk e => ?_⟩
      rw [List.mem_singleton.1 hz] at e
      have h1 := HOLD.out y hy k hk
      rcases hxk k e with ⟨h, _⟩ | h
      · subst h; cases hy
      · omega
    · rw [List.length_append, List.length_singleton]; exact hcnt
    · obtain ⟨_, _, _, h5, h6⟩ := hi'
      refine ⟨(show Y.os = Wb.os by rw [← hY]; exact HGR1.out.os).trans h5.os, (show Y.tape = Wb.tape by rw [← hY]; exact HGR1.out.tape).trans h5.tape, (show Y.output = Wb.output by rw [← hY]; exact HGR1.out.output).trans h5.output, by have := h5.size; omega, fun k hk hne => ?_⟩
      exact (hkeep k (by have := h5.size; omega) (by omega) (fun e => by have := hla k e; omega)).trans (h5.same k hk hne)
    · have := hi'.size; omega
  case done =>
    intro D xs A1 W0 W hD hi0 hsp hS hcw hi hK
    obtain ⟨⟨A', c', lb, lo⟩, hl, hm, hlow, hsz⟩ := hi
    have lc := lb.cell
    have HA := Lib.hid (And.intro lo (And.intro hl (And.intro hlow (And.intro hK (And.intro hcw (And.intro hS hi0))))))
    clear lo hl hlow hsz hK hcw hS hi0 hsp hm lb
    gi_wp2_with (fail)
    obtain ⟨lo, hl, hlow, hK, hcw, ⟨hS1, v', hS2, hS3⟩, hi0⟩ := HA.out
    have s3 := S3.out
    have hcF : Cellwise V.heap.size W (W.putObj D (.deferred none)) := .putObj hK rfl hD _
    have hc2 := hcw.trans hcF
    refine ⟨by simp, .inl ⟨_, _, rfl, run_takeDeferred hK, ?_⟩⟩
    refine ⟨_, by simp [results, Try.results35, go_sem], A', c', xs, v', rfl, owned_from (hcF.owned lo) (by omega), ⟨fun x hx => ⟨(hl.rows x hx).1, hcF.owned (hl.rows x hx).2⟩, fun x hx k hk => (hl.blks x hx k hk).imp id (fun h => by omega), hl.pair⟩, HTT.out ▸ hS1,
      HTT.out ▸ ⟨hc2.held hS2.cells, hc2.owned hS2.left, hS2.short⟩, ⟨hcF.os.trans hlow.os, hcF.tape.trans hlow.tape, hcF.output.trans hlow.output, Nat.le_trans hlow.size hcF.size, fun k hk hne => (hcF.low (Nat.lt_of_lt_of_le hk hlow.size) (by omega)).trans (hlow.same k hk hne)⟩, fun k hk => ?_⟩
    rcases hS3 k hk with h | h
    · exact .inl h
    · refine .inr ⟨by have := hi0.size; omega, fun x hx e => ?_⟩
      have := (owned_lt (hi0.laid.rows x hx).2 e).2
      omega
end Go.Proofs.Ytlcpbkbojjpfaaa
