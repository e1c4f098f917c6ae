/-
  keys: a key stands in its row no more.
-/
import Derived.Test.YtadgbobemmfjoaaKsDelete
namespace Go.Proofs.Ytadgbobemmfjoaa
open Go.RowKit
set_option linter.unusedVariables false
set_option linter.unusedSimpArgs false
attribute [local irreducible] wpF

/-- A row of which a cell has turned, and how many there are is told anew. -/
theorem RowIn.told {w w6 : World} {b o g : Nat} {S S6 : Nat → Prop} {cells cells' : List (List Pl)} {t : TypeId} {f : Nat → Option Value} {cs : Array Value} {vs' : List Value} (hW : Whole w b t cs) (h0 : cs[o]? = some (.slice (some ⟨g, 0, none⟩) cells.length cells.length)) (h1 : (cs[o + 1]?).isSome = true) (hf : ∀ i, i ≠ o → i ≠ o + 1 → cs[i]? = f i)
    (hS : ¬ S b) (hs : Spares S w w6) (hc : CellsV w6 S6 g cells' vs') (hl : cells'.length = cells.length) (hS6 : ∀ k, S6 k → S k ∨ w.heap.size ≤ k) {K : Nat} (hK : cells'.flatten.length = K) :
    RowIn (w6.setCell ⟨b, o + 1, none⟩ (.int .i64 (K : Nat))) b o S6 cells' t f ∧ Spares (fun k => k = b) w6 (w6.setCell ⟨b, o + 1, none⟩ (.int .i64 (K : Nat))) := by
  have hb6 : ¬ S6 b := fun e => (hS6 b e).elim hS fun h => by have := hW.lt; omega
  have hW6 : Whole w6 b t cs := (hs.same b hW.lt hS).trans hW
  have hoth : ∀ k, k ≠ b → (w6.setCell ⟨b, o + 1, none⟩ (.int .i64 (K : Nat))).heap[k]? = w6.heap[k]? := fun k hk => heap_setCell_other w6 ⟨b, o + 1, none⟩ k _ (fun e => hk (by simpa using e))
  have ho1 : o + 1 < cs.size := by
    rcases Nat.lt_or_ge (o + 1) cs.size with h | h
    · exact h
    · rw [Array.getElem?_eq_none h] at h1; cases h1
  refine ⟨⟨g, vs', _, hW6.put (o + 1) _, ?_, ?_, ?_, hc.same (by simp) fun k hk => hoth k fun e => hb6 (e ▸ hk), hb6⟩, ⟨rfl, rfl, rfl, by simp, fun k _ hk => hoth k hk⟩⟩
  · rw [Array.getElem?_setIfInBounds, if_neg (by omega), h0, hl]
  · rw [Array.getElem?_setIfInBounds, if_pos rfl, if_pos ho1, hK]
  · intro i q1 q2
    rw [Array.getElem?_setIfInBounds, if_neg (by omega)]
    exact hf i q1 q2
theorem RowTo.close {w w3 w6 w7 w8 : World} {b o kb : Nat} {S S6 : Nat → Prop} {cells : List (List Pl)} {t : TypeId} {f : Nat → Option Value} (hg : Grows w w3) (s6 : Spares S w3 w6) (s7 : Spares (fun k => k = b) w6 w7) (hS6 : ∀ k, S6 k → S k ∨ w3.heap.size ≤ k)
    (h : RowTo w7 b o S6 cells t f w8) (hS : ∀ k, S k → k < w.heap.size) (hkb : w.heap.size ≤ kb ∧ kb < w3.heap.size) (hb : b < w.heap.size) (cs : Array Value) : RowTo w b o S cells t f (w8.setRow kb cs) := by
  obtain ⟨⟨S', ⟨g, vs, c0, r1, r2, r3, r4, r5, r6⟩, h2⟩, h3⟩ := h
  have h37 : w3.heap.size ≤ w7.heap.size := Nat.le_trans s6.size s7.size
  have hlow : ∀ k, S' k → S k ∨ w3.heap.size ≤ k := fun k hk => (h2 k hk).elim (hS6 k) fun e => .inr (Nat.le_trans h37 e)
  have hn : ¬ S' kb := fun e => (hlow kb e).elim (fun h => by have := hS kb h; omega) fun h => by omega
  have hoth : ∀ k, k ≠ kb → (w8.setRow kb cs).heap[k]? = w8.heap[k]? := fun k hk => setRow_other w8 kb k cs hk
  refine ⟨⟨S', ⟨g, vs, c0, (hoth b (by omega)).trans r1, r2, r3, r4, r5.same (by simp) fun k hk => hoth k fun e => hn (e ▸ hk), r6⟩, fun k hk => (hlow k hk).imp_right fun e => Nat.le_trans hg.size e⟩, ?_⟩
  have a1 : Spares (fun k => S k ∨ k = b) w w8 := (((Spares.grows (own := fun k => S k ∨ k = b) hg).then s6 fun q _ e => .inl e).then s7 fun q _ e => .inr e).then h3 fun q hq e => e.elim (fun e => (hS6 q e).elim .inl fun e => by have := hg.size; omega) .inr
  exact ⟨a1.os, a1.tape, a1.output, by simpa using a1.size, fun k hk hne => (hoth k (by omega)).trans (a1.same k hk hne)⟩
theorem RowTo.kept {w3 w6 w7 w8 : World} {b o : Nat} {S S6 : Nat → Prop} {cells : List (List Pl)} {t : TypeId} {f : Nat → Option Value} (s6 : Spares S w3 w6) (s7 : Spares (fun k => k = b) w6 w7) (hS6 : ∀ k, S6 k → S k ∨ w3.heap.size ≤ k)
    (h : RowTo w7 b o S6 cells t f w8) {k : Nat} (hk : k < w3.heap.size) (hS : ¬ S k) (hb : k ≠ b) : w8.heap[k]? = w3.heap[k]? := by
  have h1 := s6.size
  have h2 := s7.size
  rw [h.2.same k (by omega) fun e => e.elim (fun e => (hS6 k e).elim hS fun e => by omega) hb, s7.same k (by omega) hb, s6.same k hk hS]
set_option maxHeartbeats 2000000 in
set_option maxRecDepth 100000 in
theorem rdel_any (key : List UInt8) (hk : key.length ≤ 1000000000) {r b o : Nat} {S : Nat → Prop} {cells : List (List Pl)} {t : TypeId} {f : Nat → Option Value} (w : World) (h : RowIn w b o S cells t f) (hr : RowOk r cells) (hn : cells.flatten.length ≤ 400000) (hks : ∀ p ∈ cells.flatten, p.key.length ≤ 1000000000) :
    Calls Try.prog 29 #[.pointer (some ⟨b, o, none⟩), .string ⟨key.toArray⟩] w fun e w' => e = .returned (plTo (getL key (cells.getD (cellOf cells.length key) []))) ∧ RowTo w b o S (delR key cells) t f w' := by
  have hc := cellOf_lt hr.pos key
  obtain ⟨g, vs, cs, hW, hq0, hq1, hqf, hcv, hSb⟩ := h
  have hra : RowAt w b o S g cells vs := ⟨by rw [hW.cell]; exact hq0, by rw [hW.cell]; exact hq1, hcv, hSb⟩
  obtain ⟨l, A, cap, hl, hv, hcell, ho, hP, hD⟩ := hcv.at hc
  have hcl : cells.length ≤ 400001 := by have := hr.small; omega
  have hdel := hr.del key
  have hg1 := grows_alloc w (.cells #[.int .i64 0, .int .i64 0, .string ⟨#[]⟩, .int .i64 0, .int .i64 0] 32)
  have hm1 := Whole.made w 32 #[.int .i64 0, .int .i64 0, .string ⟨#[]⟩, .int .i64 0, .int .i64 0]
  obtain ⟨W1, hW1⟩ : ∃ W1, w.alloc (.cells #[.int .i64 0, .int .i64 0, .string ⟨#[]⟩, .int .i64 0, .int .i64 0] 32) = W1 := ⟨_, rfl⟩
  rw [hW1] at hg1 hm1
  obtain ⟨kb, hkb⟩ : ∃ kb, w.heap.size = kb := ⟨_, rfl⟩
  rw [hkb] at hm1
  have HKB := Lib.hid (show w.heap.size = kb from hkb)
  have HF0 := Lib.hid (kfind_any key hk W1 (hra.grow hg1) hr.pos ⟨by omega, by omega⟩)
  rw [hD] at HF0 hdel ⊢
  have hll : l.length ≤ cells.flatten.length := by
    have h1 := set_flat_len (m := []) hl
    simp only [List.length_nil] at h1
    omega
  have HR := Lib.hid (And.intro hW (And.intro hq0 (And.intro hq1 (And.intro hqf (And.intro hcv hSb)))))
  have HX := Lib.hid (And.intro hg1 hm1)
  have HDEL := Lib.hid hdel
  have HC0 := Lib.hid (And.intro hc (And.intro hl hv))
  have HB := Lib.hid (And.intro hn (And.intro hks (show l.length ≤ 1000000 from by omega)))
  have HPL := Lib.hid (And.intro hP ho)
  have hunf : ∀ q, idx key l = q → delR key cells = match q with | some i => fitC (cells.set (cellOf cells.length key) (l.eraseIdx i)) | none => cells := fun q hq => by
    unfold delR
    rw [hD, hq]
    cases q <;> rfl
  have HUN := Lib.hid hunf
  have HL := Lib.hid (show ∀ (l' : List Pl), (cells.set (cellOf cells.length key) l').flatten.length + l.length = cells.flatten.length + l'.length from fun l' => set_flat_len hl)
  obtain ⟨ci, hci⟩ : ∃ ci, cellOf cells.length key = ci := ⟨_, rfl⟩
  obtain ⟨N, hN⟩ : ∃ N, cells.length = N := ⟨_, rfl⟩
  obtain ⟨K, hK⟩ : ∃ K, cells.flatten.length = K := ⟨_, rfl⟩
  obtain ⟨M, hM⟩ : ∃ M, l.length = M := ⟨_, rfl⟩
  rw [hci] at HF0 HDEL HC0 HUN HL
  rw [hci, hN] at hc
  rw [hci, hM] at hcell
  have HNK := Lib.hid (And.intro hN (And.intro hK hM))
  rw [hN] at hq0
  rw [hK] at hq1 hn
  have hgrow : ∀ w', Grows W1 w' → w'.cell? ⟨b, o, none⟩ = some (.slice (some ⟨g, 0, none⟩) N N) ∧ w'.cell? ⟨g, ci, none⟩ = some (.slice A M cap) := fun w' hg => by
    have hg' := Grows.trans hg1 hg
    refine ⟨?_, (hg'.cell (World.block_lt_of_cell? w _ hcell)).trans hcell⟩
    rw [(hg'.whole hW).cell]
    exact hq0
  have HG := Lib.hid hgrow
  have HKI := Lib.hid (show (0 : Int) ≤ (ci : Int) ∧ (ci : Int) < (N : Int) from by omega)
  have hIG := idx_get (key := key) (l := l)
  clear hcell hP ho hv hl hD hll hM hci hra hW hq0 hq1 hqf hcv hSb hg1 hm1 hN hK hgrow hunf hdel hks hkb
  rcases hIG with ⟨e1, e2⟩ | ⟨i, p, e1, e2, e3, e4, e5⟩
  · rw [e1] at HF0
    rw [e2, HUN.out _ e1]
    clear e1 e2
    have hkb := HKB.out
    go_enter Try.func29, Try.ntmps29
    go_wp2_with (first | rw [hW1] | fail)
    refine HF0.out.mono ?_
    rintro e w2 ⟨rfl, hg2⟩
    have HG2 := Lib.hid (And.intro (Grows.trans HX.out.1 hg2) (hg2.whole HX.out.2))
    clear hg2
    dsimp only [idxI]
    go_wp2_with (first
      | (refine wpList_store_row rfl 32 _ _ rfl kb #[.int .i64 0, .int .i64 0, .string ⟨#[]⟩, .int .i64 0, .int .i64 0] rfl rfl 32 _ HG2.out.2 sizePl rfl (plV_one _ _ _ _ _) ?_)
      | fail)
    refine bodyPost_ret (results_pl2 rfl _ _ kb 32 (.int .i64 0) (.int .i64 0) (.string ⟨#[]⟩) (.int .i64 0) (.int .i64 0) (.bool false) rfl rfl (HG2.out.2.rowed _)) rfl ?_
    obtain ⟨q1, q2, q3, q4, q5, q6⟩ := HR.out
    exact ⟨rfl, RowIn.keep ⟨g, vs, cs, q1, q2, q3, q4, q5, q6⟩ (below_setRow HG2.out.1 (by omega) _)⟩
  · rw [e1] at HF0
    rw [e4, HUN.out _ e1]
    dsimp only
    have hiM : i < M := by have := HNK.out; omega
    have hpr := HDEL.out.2.2 i e1
    obtain ⟨ad, x, hA, hx, hbl, hcx⟩ := Pls.at HPL.out.1 (show i < l.length from e3)
    obtain rfl : x = p := by rw [e2] at hx; exact (Option.some.inj hx).symm
    obtain ⟨p0, p1, p2, p3, p4⟩ := x
    dsimp only at hcx
    have HP := Lib.hid (show ∀ w', Grows W1 w' → _ from fun w' hg => hcx w' (Grows.trans HX.out.1 hg))
    have HPR := Lib.hid hpr
    subst hA
    have HW1 := Lib.hid (show IntKind.i64.wrap ((i : Int) + 1) = (i : Int) + 1 ∧ wrap64 ((i : Int) + 1) = (i : Int) + 1 from wrapK (by omega) (by have := HB.out; have := HNK.out; omega))
    clear e1 e2 e3 e4 e5 hx hbl hcx hpr
    have j0 : (0 : Int) ≤ (i : Int) := by omega
    have j1 : (i : Int) < (M : Int) := by omega
    have k0 := HKI.out.1
    have k1 := HKI.out.2
    have hkb := HKB.out
    go_enter Try.func29, Try.ntmps29
    go_wp2_with (first | rw [hW1] | fail)
    refine HF0.out.mono ?_
    rintro e w2 ⟨rfl, hg2⟩
    obtain ⟨d0, d1⟩ := HG.out w2 hg2
    obtain ⟨q0, q1, q2, q3, q4⟩ := HP.out w2 hg2
    have hg3 := grows_alloc w2 (.cells #[.int .i64 p0, .int .i64 p1, .string ⟨p2.toArray⟩, .int .i64 p3, .int .i64 p4] 32)
    have hm3 := Whole.made w2 32 #[.int .i64 p0, .int .i64 p1, .string ⟨p2.toArray⟩, .int .i64 p3, .int .i64 p4]
    obtain ⟨W3, hW3⟩ : ∃ W3, w2.alloc (.cells #[.int .i64 p0, .int .i64 p1, .string ⟨p2.toArray⟩, .int .i64 p3, .int .i64 p4] 32) = W3 := ⟨_, rfl⟩
    rw [hW3] at hg3 hm3
    have hs3 : W3.heap.size = w2.heap.size + 1 := by rw [← hW3, World.size_alloc]
    obtain ⟨wb, hwb⟩ : ∃ wb, w2.heap.size = wb := ⟨_, rfl⟩
    rw [hwb] at hm3
    have HG3 := Lib.hid (And.intro (Grows.trans HX.out.1 (Grows.trans hg2 hg3)) (And.intro (Grows.trans hg2 hg3) (And.intro hm3 ((Grows.trans hg2 hg3).whole HX.out.2))))
    have HSZ := Lib.hid (show w.heap.size = kb ∧ kb < wb ∧ wb < W3.heap.size from ⟨HKB.out, by have := (hg2.whole HX.out.2).lt; omega, by omega⟩)
    have HF := Lib.hid (show ∀ w', Spares (fun k => (Value.slice (some ad) M cap).ownBlock = some k) W3 w' → w'.cell? ⟨b, o, none⟩ = some (.slice (some ⟨g, 0, none⟩) N N) ∧ w'.cell? ⟨g, ci, none⟩ = some (.slice (some ad) M cap) from fun w' hs => by
      have hcv3 := HR.out.2.2.2.2.1.grow HG3.out.1
      have hvc : vs[ci]? = some (.slice (some ad) M cap) := by rw [← HNK.out.2.2]; exact HC0.out.2.2
      have hS := fun k hvc e => hcv3.inS ci (.slice (some ad) M cap) k hvc e
      have hWb := HG3.out.1.whole HR.out.1
      obtain ⟨z0, z1⟩ := HG.out W3 HG3.out.2.1
      refine ⟨(World.cell?_of_block (a := ⟨b, o, none⟩) (hs.same b hWb.lt fun e => HR.out.2.2.2.2.2 (hS b hvc e).1)).trans z0, (World.cell?_of_block (a := ⟨g, ci, none⟩) (hs.same g (hcv3.lt g hcv3.gS) fun e => (hS g hvc e).2 rfl)).trans z1⟩)
    have HO3 := Lib.hid (show W3.ownsRow 0 32 5 (.slice (some ad) M cap) M (l.flatMap plE) from by
      have h1 := owned_grow HPL.out.2 HG3.out.1
      rw [HNK.out.2.2] at h1
      exact h1)
    have HM := Lib.hid (show l.length = M ∧ i < M ∧ M ≤ 1000000 from ⟨HNK.out.2.2, by omega, by have := HB.out.2.2; have := HNK.out.2.2; omega⟩)
    clear hg2 hg3 hm3 hs3
    dsimp only [idxI]
    go_wp2_with (first | rw [hW3] | fail)
    clear d0 d1 q0 q1 q2 q3 q4
    refine wp_region_jobs (G := Grows) (E := Spares (fun k => (Value.slice (some ad) M cap).ownBlock = some k)) 17 [valJob (fun k => (Value.slice (some ad) M cap).ownBlock = some k) (.pointer (some ⟨b, o, none⟩)), valJob (fun k => (Value.slice (some ad) M cap).ownBlock = some k) (.pointer (some ⟨b, o, none⟩)), valJob (fun k => (Value.slice (some ad) M cap).ownBlock = some k) (.pointer (some ⟨b, o, none⟩)), valJob (fun k => (Value.slice (some ad) M cap).ownBlock = some k) (.slice (some ⟨g, 0, none⟩) N N), valJob (fun k => (Value.slice (some ad) M cap).ownBlock = some k) (.int .i64 (ci : Int)), valJob (fun k => (Value.slice (some ad) M cap).ownBlock = some k) (.pointer (some ⟨b, o, none⟩)), valJob (fun k => (Value.slice (some ad) M cap).ownBlock = some k) (.pointer (some ⟨b, o, none⟩)), valJob (fun k => (Value.slice (some ad) M cap).ownBlock = some k) (.pointer (some ⟨b, o, none⟩)), valJob (fun k => (Value.slice (some ad) M cap).ownBlock = some k) (.slice (some ⟨g, 0, none⟩) N N), valJob (fun k => (Value.slice (some ad) M cap).ownBlock = some k) (.int .i64 (ci : Int)), valJob (fun k => (Value.slice (some ad) M cap).ownBlock = some k) (.pointer (some ⟨g, ci, none⟩)), valJob (fun k => (Value.slice (some ad) M cap).ownBlock = some k) (.slice (some ad) M cap), valJob (fun k => (Value.slice (some ad) M cap).ownBlock = some k) (.int .i64 (i : Int)), valJob (fun k => (Value.slice (some ad) M cap).ownBlock = some k) (.int .i64 (i : Int)), valJob (fun k => (Value.slice (some ad) M cap).ownBlock = some k) (.int .i64 ((i + 1 : Nat) : Int)), wrJob (fun k => (Value.slice (some ad) M cap).ownBlock = some k) (.slice (some ad) (M - 1) cap) (fun w' => w'.ownsRow 0 32 5 (.slice (some ad) (M - 1) cap) (M - 1) ((l.eraseIdx i).flatMap plE)) (fun _ _ h g => owned_grow h g), valJob (fun k => (Value.slice (some ad) M cap).ownBlock = some k) (.pointer (some ⟨g, ci, none⟩))] [(false, false), (false, false), (false, false), (false, false), (false, false), (false, false), (false, false), (false, false), (false, false), (false, false), (false, false), (false, false), (false, false), (false, false), (false, false), (true, true), (false, false)] (fun w' => w'.ownsRow 0 32 5 (.slice (some ad) M cap) M (l.flatMap plE)) rfl mixed (by kernel_rfl) (fun _ _ => Spares.grows) (fun _ _ _ => Spares.trans) (spares_drew _ _) (owned_same3 HO3.out fun _ _ => rfl) (fun _ _ h g => owned_grow h g) ?_
    simp only [List.take_succ_cons, List.take_zero, List.drop_succ_cons, List.drop_zero]
    refine j_val (.pointer (some ⟨b, o, none⟩)) (by rfl) ?_ ?_
    · intro w' hC; clear hC; go_simp
    simp only [Act.put, List.setIfInBounds_toArray, List.set_cons_zero, List.set_cons_succ]
    refine j_val (.pointer (some ⟨b, o, none⟩)) (by rfl) ?_ ?_
    · intro w' hC; clear hC; go_simp
    simp only [Act.put, List.setIfInBounds_toArray, List.set_cons_zero, List.set_cons_succ]
    refine j_val (.pointer (some ⟨b, o, none⟩)) (by rfl) ?_ ?_
    · intro w' hC; clear hC; go_simp
    simp only [Act.put, List.setIfInBounds_toArray, List.set_cons_zero, List.set_cons_succ]
    refine j_val (.slice (some ⟨g, 0, none⟩) N N) (by rfl) ?_ ?_
    · intro w' hC; obtain ⟨z0, z1⟩ := HF.out w' hC; clear hC; go_simp
    simp only [Act.put, List.setIfInBounds_toArray, List.set_cons_zero, List.set_cons_succ]
    refine j_val (.int .i64 (ci : Int)) (by rfl) ?_ ?_
    · intro w' hC; clear hC; go_simp
    simp only [Act.put, List.setIfInBounds_toArray, List.set_cons_zero, List.set_cons_succ]
    refine j_val (.pointer (some ⟨b, o, none⟩)) (by rfl) ?_ ?_
    · intro w' hC; clear hC; go_simp
    simp only [Act.put, List.setIfInBounds_toArray, List.set_cons_zero, List.set_cons_succ]
    refine j_val (.pointer (some ⟨b, o, none⟩)) (by rfl) ?_ ?_
    · intro w' hC; clear hC; go_simp
    simp only [Act.put, List.setIfInBounds_toArray, List.set_cons_zero, List.set_cons_succ]
    refine j_val (.pointer (some ⟨b, o, none⟩)) (by rfl) ?_ ?_
    · intro w' hC; clear hC; go_simp
    simp only [Act.put, List.setIfInBounds_toArray, List.set_cons_zero, List.set_cons_succ]
    refine j_val (.slice (some ⟨g, 0, none⟩) N N) (by rfl) ?_ ?_
    · intro w' hC; obtain ⟨z0, z1⟩ := HF.out w' hC; clear hC; go_simp
    simp only [Act.put, List.setIfInBounds_toArray, List.set_cons_zero, List.set_cons_succ]
    refine j_val (.int .i64 (ci : Int)) (by rfl) ?_ ?_
    · intro w' hC; clear hC; go_simp
    simp only [Act.put, List.setIfInBounds_toArray, List.set_cons_zero, List.set_cons_succ]
    refine j_val (.pointer (some ⟨g, ci, none⟩)) (by rfl) ?_ ?_
    · intro w' hC; have j0 := HKI.out.1; have j1 := HKI.out.2; clear hC; go_simp
    simp only [Act.put, List.setIfInBounds_toArray, List.set_cons_zero, List.set_cons_succ]
    refine j_val (.slice (some ad) M cap) (by rfl) ?_ ?_
    · intro w' hC; obtain ⟨z0, z1⟩ := HF.out w' hC; clear hC; go_simp
    simp only [Act.put, List.setIfInBounds_toArray, List.set_cons_zero, List.set_cons_succ]
    refine j_val (.int .i64 (i : Int)) (by rfl) ?_ ?_
    · intro w' hC; clear hC; go_simp
    simp only [Act.put, List.setIfInBounds_toArray, List.set_cons_zero, List.set_cons_succ]
    refine j_val (.int .i64 (i : Int)) (by rfl) ?_ ?_
    · intro w' hC; clear hC; go_simp
    simp only [Act.put, List.setIfInBounds_toArray, List.set_cons_zero, List.set_cons_succ]
    refine j_val (.int .i64 ((i + 1 : Nat) : Int)) (by rfl) ?_ ?_
    · intro w' hC; have z := HW1.out.1; have z2 := HW1.out.2; clear hC; go_simp; first | done | (push_cast; go_simp)
    simp only [Act.put, List.setIfInBounds_toArray, List.set_cons_zero, List.set_cons_succ]
    refine j_write 41 #[.slice (some ad) M cap, .int .i64 (i : Nat), .int .i64 ((i + 1 : Nat) : Int)] (.slice (some ad) (M - 1) cap) (by rfl) (by intro w' hC; clear hC; go_simp) ?_ ?_
    · intro w' hC hcls; exact (delete_any w' hcls HM.out.1 HM.out.2.1 HM.out.2.2).mono fun e w'' ⟨he, h1, h2⟩ => ⟨he, h2, h1⟩
    simp only [Act.put, List.setIfInBounds_toArray, List.set_cons_zero, List.set_cons_succ]
    refine j_val (.pointer (some ⟨g, ci, none⟩)) (by rfl) ?_ ?_
    · intro w' hC; have j0 := HKI.out.1; have j1 := HKI.out.2; clear hC; go_simp
    simp only [Act.put, List.setIfInBounds_toArray, List.set_cons_zero, List.set_cons_succ]
    refine wpJ_end ?_
    intro w5 hC hks hcls
    have HCw5 := Lib.hid hC
    have HLw5 := Lib.hid hcls
    clear hC hks hcls
    have HOW := Lib.hid HLw5.out
    obtain ⟨M1, hM1⟩ : ∃ M1, M - 1 = M1 := ⟨_, rfl⟩
    obtain ⟨K1, hK1⟩ : ∃ K1, K - 1 = K1 := ⟨_, rfl⟩
    rw [hM1] at HOW ⊢
    have hcv3 := HR.out.2.2.2.2.1.grow HG3.out.1
    have hvc : vs[ci]? = some (.slice (some ad) M cap) := by rw [← HNK.out.2.2]; exact HC0.out.2.2
    have hel : (l.eraseIdx i).length = M1 := by rw [List.length_eraseIdx, if_pos (by have := HNK.out; omega), HNK.out.2.2, hM1]
    have ho5 : OwnP w5 0 (.slice (some ad) M1 cap) (l.eraseIdx i) := by unfold OwnP; rw [hel]; exact HOW.out
    obtain ⟨k6, s6⟩ := hcv3.stored HC0.out.1 hvc HCw5.out ho5 (fun k hk => .inl hk)
    have hgS : ¬ (Value.slice (some ad) M cap).ownBlock = some g := fun e => (hcv3.inS ci _ g hvc e).2 rfl
    have hWg : Whole w5 g 54 vs.toArray := (HCw5.out.same g (hcv3.lt g hcv3.gS) hgS).trans hcv3.blk
    have f0 := hWg.free ci
    obtain ⟨_, x0⟩ := HF.out w5 HCw5.out
    have hsz6 : (w5.setCell ⟨g, ci, none⟩ (.slice (some ad) M1 cap)).heap.size = w5.heap.size := by simp
    obtain ⟨W6, hW6⟩ : ∃ W6, w5.setCell ⟨g, ci, none⟩ (.slice (some ad) M1 cap) = W6 := ⟨_, rfl⟩
    rw [hW6] at k6 s6 hsz6
    have hfl : (cells.set ci (l.eraseIdx i)).flatten.length = K1 := by
      have h1 := HL.out (l.eraseIdx i)
      have := HNK.out
      omega
    have hWb3 := HG3.out.1.whole HR.out.1
    obtain ⟨r7, s7⟩ := RowIn.told (f := f) hWb3 HR.out.2.1 (by rw [HR.out.2.2.1]; rfl) HR.out.2.2.2.1 HR.out.2.2.2.2.2 s6 k6 (by rw [List.length_set]) (fun k hk => hk.imp_right fun h => h.1) hfl
    have hW6b : Whole W6 b t cs := (s6.same b hWb3.lt HR.out.2.2.2.2.2).trans hWb3
    have c6 := hW6b.cell (o + 1)
    have f6 := hW6b.free (o + 1)
    rw [HR.out.2.2.1, HNK.out.2.1] at c6
    obtain ⟨W7, hW7⟩ : ∃ W7, W6.setCell ⟨b, o + 1, none⟩ (.int .i64 (K1 : Nat)) = W7 := ⟨_, rfl⟩
    rw [hW7] at r7 s7
    have hKp : 0 < K := by have h1 := HL.out []; have h2 := HNK.out; rw [show ([] : List Pl).length = 0 from rfl] at h1; omega
    have hKi : (K : Int) - 1 = (K1 : Int) := by omega
    have hKb : K1 ≤ 400000 := by omega
    have HWK := Lib.hid (wrapK (x := (K1 : Int)) (by omega) (by omega))
    have HFIT := Lib.hid (fit_any W7 r7 HPR.out (by rw [hfl]; exact hKb) (fun p hp => by
      obtain ⟨c', l', h1, h2⟩ := mem_flat.1 hp
      rcases List.mem_or_eq_of_mem_set (List.mem_of_getElem? h1) with h3 | rfl
      · exact HB.out.2.1 p (List.mem_flatten.2 ⟨l', h3, h2⟩)
      · exact HB.out.2.1 p (List.mem_flatten.2 ⟨l, List.mem_of_getElem? HC0.out.2.1, (List.eraseIdx_sublist _ _).subset h2⟩)))
    have H67 := Lib.hid (And.intro s6 (And.intro s7 (show ∀ k, (S k ∨ (W3.heap.size ≤ k ∧ k < W6.heap.size)) → S k ∨ W3.heap.size ≤ k from fun k hk => hk.imp_right fun h => h.1)))
    have HSZ7 := Lib.hid (show W3.heap.size ≤ W6.heap.size ∧ W6.heap.size ≤ W7.heap.size from ⟨s6.size, s7.size⟩)
    obtain ⟨y1, y2⟩ := HWK.out
    clear hKb hcv3 hvc hel ho5 k6 s6 hgS hWg hsz6 hfl hWb3 r7 s7 hW6b hM1 hK1 hKp
    go_wp2_with (first | rw [hW6] | rw [hW7] | fail)
    refine HFIT.out.mono ?_
    rintro e w8 ⟨rfl, hto⟩
    have hlt := HR.out.2.2.2.2.1.lt
    have hbl := HR.out.1.lt
    have hsz := HSZ.out
    have hkw : Whole w8 wb 32 #[.int .i64 p0, .int .i64 p1, .string ⟨p2.toArray⟩, .int .i64 p3, .int .i64 p4] := (RowTo.kept H67.out.1 H67.out.2.1 H67.out.2.2 hto hsz.2.2 (fun e => by have := hlt wb e; omega) (by omega)).trans HG3.out.2.2.1
    have hkk : Whole w8 kb 32 #[.int .i64 0, .int .i64 0, .string ⟨#[]⟩, .int .i64 0, .int .i64 0] := (RowTo.kept H67.out.1 H67.out.2.1 H67.out.2.2 hto (by omega) (fun e => by have := hlt kb e; omega) (by omega)).trans HG3.out.2.2.2
    have e0 := hkw.cell 0
    have e1 := hkw.cell 1
    have e2 := hkw.cell 2
    have e3 := hkw.cell 3
    have e4 := hkw.cell 4
    simp only [List.getElem?_toArray, List.getElem?_cons_zero, List.getElem?_cons_succ] at e0 e1 e2 e3 e4
    have HTO := Lib.hid (And.intro hto hkk)
    clear hto hkw hkk hlt hbl hsz y1 y2 c6 f6 x0 f0
    go_wp2_with (first
      | (refine wpList_store_row rfl 32 _ _ rfl kb #[.int .i64 p0, .int .i64 p1, .string ⟨p2.toArray⟩, .int .i64 p3, .int .i64 p4] rfl rfl 32 _ HTO.out.2 sizePl rfl (plV_one _ _ _ _ _) ?_)
      | fail)
    refine bodyPost_ret (results_pl2 rfl _ _ kb 32 (.int .i64 p0) (.int .i64 p1) (.string ⟨p2.toArray⟩) (.int .i64 p3) (.int .i64 p4) (.bool true) rfl rfl (HTO.out.2.rowed _)) rfl ?_
    exact ⟨rfl, RowTo.close HG3.out.1 H67.out.1 H67.out.2.1 H67.out.2.2 HTO.out.1 HR.out.2.2.2.2.1.lt ⟨by have := HSZ.out; omega, by have := HSZ.out; omega⟩ HR.out.1.lt _⟩
end Go.Proofs.Ytadgbobemmfjoaa
