/-
  keys: a place stands in its key's row.
-/
import Derived.Test.YtadgbobemmfjoaaKsDel
import Derived.Test.YtadgbobemmfjoaaShelf
namespace Go.Proofs.Ytadgbobemmfjoaa
open Go.RowKit
set_option linter.unusedVariables false
set_option linter.unusedSimpArgs false
attribute [local irreducible] wpF

theorem kclone_any (s : ByteArray) (hs : s.size ≤ 281474976710656) (w : World) : Calls Try.prog 45 #[.string s] w fun e w' => e = .returned (.string s) ∧ Grows w w' := by
  go_enter Try.func45, Try.ntmps45
  go_wp2_with (fail)
  refine (stringslite_Clone s w hs).mono ?_
  rintro e w' ⟨rfl, hb⟩
  have HB := Lib.hid hb
  clear hb
  go_wp2_with (fail)
  go_ret
  exact ⟨rfl, HB.out⟩
theorem wpList_store_at {P : Program} {ops : Array Oper} {rest : List Oper} {o : Oper} {a : Act} {w : World} {Q : Exit → Act → World → Prop} (hgd : o.guard = none) (ty : TypeId) (x y : Operand) (ho : o.op = .store ty x y)
    (g off : Nat) (cells : Array Value) (hx : a.eval x = .pointer (some ⟨g, off, none⟩)) (hy : a.eval y = .agg cells)
    (t : TypeId) (cur : Array Value) (hg : w.heap[g]? = some (.cells cur t (0, 0))) (hi : (P.info? ty).map (·.size) = some cells.size)
    (hfit : off + cells.size ≤ cur.size) (h1 : ∀ u ∈ cells.toList, u.oneCell' = true)
    (h : wpList P ops Q rest (a.put o.dst undef) (w.setRow g (cur.toList.take off ++ cells.toList ++ cur.toList.drop (off + cells.size)).toArray)) : wpList P ops Q (o :: rest) a w := by
  refine wpList_plain hgd fun _ hK => ?_
  have hst := run_storeCells_at P g off t cells.toList 0 cur w hg (by simpa using hfit) h1
  simp only [Nat.add_zero, Array.length_toList] at hst
  have hsv : (storeVar ty ⟨g, off, none⟩ (.agg cells)).run P w = .ok () (w.setRow g (cur.toList.take off ++ cells.toList ++ cur.toList.drop (off + cells.size)).toArray) := by
    cases hq : P.info? ty with
    | none => simp [hq] at hi
    | some i =>
      have hs : cells.size = i.size := by simp [hq] at hi; omega
      rw [← hst]
      simp [storeVar, sizeOf, typeInfo, hq, Value.cells, hs]
  unfold Oper.wp execOp
  simp only [ho, hx, hy, Instr.storeAt, Instr.sureAddr, Sem.run_bind, Sem.run_pure, Result.andThen_ok, hsv]
  exact hK _ _ h
/-- One place of a cell is another. -/
theorem own_set {w : World} {g n c : Nat} {l : List Pl} (h : w.ownsRow 0 32 5 (.slice (some ⟨g, 0, none⟩) n c) n (l.flatMap plE)) (hl : l.length = n) {i : Nat} (hi : i < n) (p : Pl) :
    ∃ cur, w.heap[g]? = some (.cells cur 32 (0, 0)) ∧ i * 5 + 5 ≤ cur.size ∧
      ∀ (xs : List Value), xs = cur.toList.take (i * 5) ++ plE p ++ cur.toList.drop (i * 5 + 5) → (w.setRow g xs.toArray).ownsRow 0 32 5 (.slice (some ⟨g, 0, none⟩) n c) n ((l.set i p).flatMap plE) := by
  rcases h.2 with ⟨e, e2⟩ | ⟨g', cap, cur, e, hb, hg, hnc, hcm, hcs, ht⟩
  · omega
  · injection e with e1 e2 e3
    injection e1 with e1
    injection e1 with e1
    subst e1 e3
    have hfit : i * 5 + 5 ≤ cur.size := by omega
    refine ⟨cur, hg, hfit, fun xs hxs => ?_⟩
    subst hxs
    refine ⟨by rw [flat_len5, List.length_set, hl], .inr ⟨g, c, _, rfl, hb, setRow_heap w g cur _ _ _ hg, hnc, hcm, ?_, ?_⟩⟩
    · simp only [List.size_toArray, List.length_append, List.length_take, List.length_drop, Array.length_toList]
      rw [show (plE p).length = 5 from rfl]
      omega
    · apply List.ext_getElem?
      intro j
      have h0 : ∀ j, j < n * 5 → (l.flatMap plE)[j]? = cur.toList[j]? := fun j hj => by rw [← ht, List.getElem?_take, if_pos hj]
      have hlt : (cur.toList.take (i * 5)).length = i * 5 := by rw [List.length_take, Array.length_toList]; omega
      by_cases hj : j < n * 5
      · rw [List.getElem?_take, if_pos hj]
        show (cur.toList.take (i * 5) ++ plE p ++ cur.toList.drop (i * 5 + 5))[j]? = _
        have hq : j / 5 < n := by omega
        have hm : j % 5 < 5 := Nat.mod_lt _ (by omega)
        have hdm : j / 5 * 5 + j % 5 = j := by omega
        have hx : ∃ x, (l.set i p)[j / 5]? = some x := ⟨_, List.getElem?_eq_getElem (by rw [List.length_set]; omega)⟩
        obtain ⟨x, hx⟩ := hx
        have h1 := flat_get plL (l.set i p) (j / 5) (j % 5) x hx hm
        rw [hdm] at h1
        rw [h1]
        by_cases e : j / 5 = i
        · rw [List.getElem?_set] at hx
          rw [if_pos e.symm, if_pos (by omega)] at hx
          injection hx with hx
          subst hx
          rw [List.append_assoc, List.getElem?_append_right (by omega), hlt, List.getElem?_append_left (by show _ < 5; omega)]
          congr 1
          omega
        · rw [List.getElem?_set, if_neg (fun h => e h.symm)] at hx
          have h2 := flat_get plL l (j / 5) (j % 5) x hx hm
          rw [hdm, h0 j hj] at h2
          rw [← h2]
          by_cases hji : j < i * 5
          · rw [List.append_assoc, List.getElem?_append_left (by omega), List.getElem?_take, if_pos hji]
          · have : i * 5 + 5 ≤ j := by omega
            rw [List.getElem?_append_right (by rw [List.length_append, hlt]; show i * 5 + 5 ≤ j; omega), List.length_append, hlt, List.getElem?_drop]
            rw [show (plE p).length = 5 from rfl]
            congr 1
            omega
      · rw [List.getElem?_eq_none (by rw [List.length_take]; omega), List.getElem?_eq_none (by rw [flat_len5, List.length_set]; omega)]
set_option maxHeartbeats 2000000 in
set_option maxRecDepth 100000 in
theorem krput_any (p : Pl) (hk : p.key.length ≤ 1000000000) {r b o : Nat} {S : Nat → Prop} {cells : List (List Pl)} {t : TypeId} {f : Nat → Option Value} (w : World) (h : RowIn w b o S cells t f) (hr : RowOk r cells) (hrow : rowOf p.key = r) (hn : cells.flatten.length < 400000) (hks : ∀ p ∈ cells.flatten, p.key.length ≤ 1000000000) :
    Calls Try.prog 35 #[.pointer (some ⟨b, o, none⟩), plV p] w fun e w' => e = .returned (plTo (getL p.key (cells.getD (cellOf cells.length p.key) []))) ∧ RowTo w b o S (kputR p cells) t f w' := by
  have hput := hr.put p hrow
  obtain ⟨p0, p1, p2, p3, p4⟩ := p
  dsimp only at hk hput hrow ⊢
  show Calls _ _ #[_, .agg #[.int .i64 p0, .int .i64 p1, .string ⟨p2.toArray⟩, .int .i64 p3, .int .i64 p4]] _ _
  have hc := cellOf_lt hr.pos p2
  obtain ⟨g, vs, cs, hW, hq0, hq1, hqf, hcv, hSb⟩ := h
  have hra : RowAt w b o S g cells vs := ⟨by rw [hW.cell]; exact hq0, by rw [hW.cell]; exact hq1, hcv, hSb⟩
  obtain ⟨l, A, cap, hl, hv, hcell, ho, hP, hD⟩ := hcv.at hc
  have hcl : cells.length ≤ 400001 := by have := hr.small; omega
  have hg0 := grows_alloc w (.cells #[.int .i64 p0, .int .i64 p1, .string ⟨p2.toArray⟩, .int .i64 p3, .int .i64 p4] 32)
  have hm0 := Whole.made w 32 #[.int .i64 p0, .int .i64 p1, .string ⟨p2.toArray⟩, .int .i64 p3, .int .i64 p4]
  obtain ⟨W0, hW0⟩ : ∃ W0, w.alloc (.cells #[.int .i64 p0, .int .i64 p1, .string ⟨p2.toArray⟩, .int .i64 p3, .int .i64 p4] 32) = W0 := ⟨_, rfl⟩
  rw [hW0] at hg0 hm0
  have hs0 : W0.heap.size = w.heap.size + 1 := by rw [← hW0, World.size_alloc]
  have hg1 := grows_alloc W0 (.cells #[.int .i64 0, .int .i64 0, .string ⟨#[]⟩, .int .i64 0, .int .i64 0] 32)
  have hm1 := Whole.made W0 32 #[.int .i64 0, .int .i64 0, .string ⟨#[]⟩, .int .i64 0, .int .i64 0]
  obtain ⟨W1, hW1⟩ : ∃ W1, W0.alloc (.cells #[.int .i64 0, .int .i64 0, .string ⟨#[]⟩, .int .i64 0, .int .i64 0] 32) = W1 := ⟨_, rfl⟩
  rw [hW1] at hg1 hm1
  have hs1 : W1.heap.size = W0.heap.size + 1 := by rw [← hW1, World.size_alloc]
  have hm01 := hg1.whole hm0
  obtain ⟨pb, hpb⟩ : ∃ pb, w.heap.size = pb := ⟨_, rfl⟩
  rw [hpb] at hm0 hm01
  obtain ⟨kb, hkb⟩ : ∃ kb, W0.heap.size = kb := ⟨_, rfl⟩
  rw [hkb] at hm1
  have HSZ := Lib.hid (show w.heap.size = pb ∧ W0.heap.size = kb ∧ kb = pb + 1 ∧ W1.heap.size = kb + 1 from by omega)
  have ck := hm01.cell 2
  simp only [List.getElem?_toArray, List.getElem?_cons_zero, List.getElem?_cons_succ] at ck
  have HF0 := Lib.hid (kfind_any p2 hk W1 (hra.grow (Grows.trans hg0 hg1)) hr.pos ⟨by omega, by omega⟩)
  rw [hD] at HF0 hput ⊢
  have hll : l.length ≤ cells.flatten.length := by
    have h1 := set_flat_len (m := []) hl
    simp only [List.length_nil] at h1
    omega
  have HR := Lib.hid (And.intro hW (And.intro hq0 (And.intro hq1 (And.intro hqf (And.intro hcv hSb)))))
  have HX := Lib.hid (And.intro (Grows.trans hg0 hg1) (And.intro hm01 hm1))
  have HPUT := Lib.hid hput
  have HC0 := Lib.hid (And.intro hc (And.intro hl hv))
  have HB := Lib.hid (And.intro hn (And.intro hks (show l.length ≤ 1000000 from by omega)))
  have HPL := Lib.hid (And.intro hP ho)
  have hunf : ∀ q, idx p2 l = q → kputR ⟨p0, p1, p2, p3, p4⟩ cells = match q with | some i => cells.set (cellOf cells.length p2) (l.set i ⟨p0, p1, p2, p3, p4⟩) | none => fitC (cells.set (cellOf cells.length p2) (l ++ [⟨p0, p1, p2, p3, p4⟩])) := fun q hq => by
    unfold kputR
    dsimp only
    rw [hD, hq]
    cases q <;> rfl
  have HUN := Lib.hid hunf
  have HL := Lib.hid (show ∀ (l' : List Pl), (cells.set (cellOf cells.length p2) l').flatten.length + l.length = cells.flatten.length + l'.length from fun l' => set_flat_len hl)
  obtain ⟨ci, hci⟩ : ∃ ci, cellOf cells.length p2 = ci := ⟨_, rfl⟩
  obtain ⟨N, hN⟩ : ∃ N, cells.length = N := ⟨_, rfl⟩
  obtain ⟨K, hK⟩ : ∃ K, cells.flatten.length = K := ⟨_, rfl⟩
  obtain ⟨M, hM⟩ : ∃ M, l.length = M := ⟨_, rfl⟩
  rw [hci] at HF0 HPUT HC0 HUN HL
  rw [hci, hN] at hc
  rw [hci, hM] at hcell
  have HNK := Lib.hid (And.intro hN (And.intro hK hM))
  rw [hN] at hq0
  rw [hK] at hq1 hn
  have hg01 := Grows.trans hg0 hg1
  have hgrow : ∀ w', Grows w w' → w'.cell? ⟨b, o, none⟩ = some (.slice (some ⟨g, 0, none⟩) N N) ∧ w'.cell? ⟨g, ci, none⟩ = some (.slice A M cap) := fun w' hg => by
    have hg' := hg
    refine ⟨?_, (hg'.cell (World.block_lt_of_cell? w _ hcell)).trans hcell⟩
    rw [(hg'.whole hW).cell]
    exact hq0
  have HG := Lib.hid hgrow
  have HKI := Lib.hid (show (0 : Int) ≤ (ci : Int) ∧ (ci : Int) < (N : Int) from by omega)
  have hIG := idx_get (key := p2) (l := l)
  clear hcell hP ho hv hl hD hll hM hci hra hW hq0 hq1 hqf hcv hSb hg1 hm1 hN hK hgrow hunf hput hks hg0 hm0 hg01 hm01 hs0 hs1
  rcases hIG with ⟨e1, e2⟩ | ⟨i, p, e1, e2, e3, e4, e5⟩
  · rw [e1] at HF0
    rw [e2, HUN.out _ e1]
    dsimp only
    have HPR := Lib.hid (HPUT.out.2.2 e1)
    have hkb := HSZ.out.2.1
    have hpb := HSZ.out.1
    clear e1 e2
    go_enter Try.func35, Try.ntmps35
    go_wp2_with (first | rw [hW0] | rw [hW1] | fail)
    refine HF0.out.mono ?_
    rintro e w2 ⟨rfl, hg2⟩
    have hp2 := hg2.whole HX.out.2.1
    have c2 := hp2.cell 2
    simp only [List.getElem?_toArray, List.getElem?_cons_zero, List.getElem?_cons_succ] at c2
    have HG2 := Lib.hid hg2
    clear hg2 hp2 ck
    dsimp only [idxI]
    go_wp2_with (fail)
    refine (kclone_any ⟨p2.toArray⟩ (by simp [ByteArray.size]; omega) w2).mono ?_
    rintro e w3 ⟨rfl, hg3⟩
    have hp3 := hg3.whole (HG2.out.whole HX.out.2.1)
    have d2 := hp3.cell 2
    have f2 := hp3.free 2
    simp only [List.getElem?_toArray, List.getElem?_cons_zero, List.getElem?_cons_succ] at d2
    have hgw3 := Grows.trans HX.out.1 (Grows.trans HG2.out hg3)
    have hk3 := hg3.whole (HG2.out.whole HX.out.2.2)
    obtain ⟨W4, hW4⟩ : ∃ W4, w3.setCell ⟨pb, 2, none⟩ (.string ⟨p2.toArray⟩) = W4 := ⟨_, rfl⟩
    have hp4 : Whole W4 pb 32 #[.int .i64 p0, .int .i64 p1, .string ⟨p2.toArray⟩, .int .i64 p3, .int .i64 p4] := by rw [← hW4]; exact hp3.put 2 _
    have hk4 : Whole W4 kb 32 #[.int .i64 0, .int .i64 0, .string ⟨#[]⟩, .int .i64 0, .int .i64 0] := by rw [← hW4]; exact (heap_setCell_other w3 ⟨pb, 2, none⟩ kb _ (by have := HSZ.out; show kb ≠ pb; omega)).trans hk3
    have hg4 : Grows w W4 := by rw [← hW4]; exact Below.setCell (p := ⟨pb, 2, none⟩) hgw3 (by have := HSZ.out; show w.heap.size ≤ pb; omega) _
    have hz4 : W4.heap.size = w3.heap.size := by rw [← hW4]; simp
    have HG4 := Lib.hid (And.intro hg4 (And.intro hp4 (And.intro hk4 (show kb < W4.heap.size ∧ pb < W4.heap.size from ⟨hk4.lt, hp4.lt⟩))))
    have hvc : vs[ci]? = some (.slice A M cap) := by rw [← HNK.out.2.2]; exact HC0.out.2.2
    have HVC := Lib.hid hvc
    have HF := Lib.hid (show ∀ w', Spares (fun k => (Value.slice A M cap).ownBlock = some k) W4 w' → True ∧ w'.cell? ⟨b, o, none⟩ = some (.slice (some ⟨g, 0, none⟩) N N) ∧ w'.cell? ⟨g, ci, none⟩ = some (.slice A M cap) ∧
        w'.cell? ⟨pb, 0, none⟩ = some (.int .i64 p0) ∧ w'.cell? ⟨pb, 1, none⟩ = some (.int .i64 p1) ∧ w'.cell? ⟨pb, 2, none⟩ = some (.string ⟨p2.toArray⟩) ∧ w'.cell? ⟨pb, 3, none⟩ = some (.int .i64 p3) ∧ w'.cell? ⟨pb, 4, none⟩ = some (.int .i64 p4) from fun w' hs => by
      have hcv4 := HR.out.2.2.2.2.1.grow HG4.out.1
      have hS := fun k e => hcv4.inS ci (.slice A M cap) k HVC.out e
      have hWb := HG4.out.1.whole HR.out.1
      obtain ⟨z0, z1⟩ := HG.out W4 HG4.out.1
      have hp' : Whole w' pb 32 #[.int .i64 p0, .int .i64 p1, .string ⟨p2.toArray⟩, .int .i64 p3, .int .i64 p4] := (hs.same pb HG4.out.2.1.lt fun e => by have := HR.out.2.2.2.2.1.lt pb (hS pb e).1; have := HSZ.out; omega).trans HG4.out.2.1
      refine ⟨trivial, (World.cell?_of_block (a := ⟨b, o, none⟩) (hs.same b hWb.lt fun e => HR.out.2.2.2.2.2 (hS b e).1)).trans z0, (World.cell?_of_block (a := ⟨g, ci, none⟩) (hs.same g (hcv4.lt g hcv4.gS) fun e => (hS g e).2 rfl)).trans z1, ?_, ?_, ?_, ?_, ?_⟩ <;> (rw [hp'.cell]; rfl))
    have HM := Lib.hid (show (W4.ownsRow 0 32 5 (.slice A M cap) M (l.flatMap plE) ∧ l.length = M) ∧ M < 1000000 from by
      have h1 := owned_grow HPL.out.2 HG4.out.1
      rw [HNK.out.2.2] at h1
      have := HB.out
      have := HNK.out
      exact ⟨⟨h1, HNK.out.2.2⟩, by have := HL.out []; rw [show ([] : List Pl).length = 0 from rfl] at this; omega⟩)
    have HOWN := Lib.hid (show ∀ k, (Value.slice A M cap).ownBlock = some k → k < W4.heap.size from fun k e => (owned_lt3 HM.out.1.1 e).2)
    have HK := Lib.hid HKI.out
    clear hg3 hp3 hgw3 hk3 hp4 hk4 hg4 hz4 hvc
    go_wp2_with (first | rw [hW4] | fail)
    clear d2 f2 c2 hW4
    refine wp_region_jobs (G := Grows) (E := Spares (fun k => (Value.slice A M cap).ownBlock = some k)) 16 [valJob (fun k => (Value.slice A M cap).ownBlock = some k) (.pointer (some ⟨b, o, none⟩)), valJob (fun k => (Value.slice A M cap).ownBlock = some k) (.pointer (some ⟨b, o, none⟩)), valJob (fun k => (Value.slice A M cap).ownBlock = some k) (.pointer (some ⟨b, o, none⟩)), valJob (fun k => (Value.slice A M cap).ownBlock = some k) (.slice (some ⟨g, 0, none⟩) N N), valJob (fun k => (Value.slice A M cap).ownBlock = some k) (.int .i64 (ci : Int)), valJob (fun k => (Value.slice A M cap).ownBlock = some k) (.pointer (some ⟨b, o, none⟩)), valJob (fun k => (Value.slice A M cap).ownBlock = some k) (.pointer (some ⟨b, o, none⟩)), valJob (fun k => (Value.slice A M cap).ownBlock = some k) (.pointer (some ⟨b, o, none⟩)), valJob (fun k => (Value.slice A M cap).ownBlock = some k) (.slice (some ⟨g, 0, none⟩) N N), valJob (fun k => (Value.slice A M cap).ownBlock = some k) (.int .i64 (ci : Int)), valJob (fun k => (Value.slice A M cap).ownBlock = some k) (.pointer (some ⟨g, ci, none⟩)), valJob (fun k => (Value.slice A M cap).ownBlock = some k) (.slice A M cap), valJob (fun k => (Value.slice A M cap).ownBlock = some k) (.agg #[.int .i64 p0, .int .i64 p1, .string ⟨p2.toArray⟩, .int .i64 p3, .int .i64 p4]), blkJob (fun k => (Value.slice A M cap).ownBlock = some k) (32) (#[.int .i64 p0, .int .i64 p1, .string ⟨p2.toArray⟩, .int .i64 p3, .int .i64 p4]) 1, clsJob (fun k => (Value.slice A M cap).ownBlock = some k) (Option Addr × Nat) (none, 0) (fun q => .slice q.1 (M + 1) q.2) (fun q w' => ∃ k1, k1 = M + 1 ∧ PlRow W4.heap.size (.slice A M cap) (l ++ [⟨p0, p1, p2, p3, p4⟩]) q.1 k1 q.2 w') (fun _ _ _ h hg => h.elim fun k1 h => ⟨k1, h.1, h.2.grow hg⟩), valJob (fun k => (Value.slice A M cap).ownBlock = some k) (.pointer (some ⟨g, ci, none⟩))] [(false, false), (false, false), (false, false), (false, false), (false, false), (false, false), (false, false), (false, false), (false, false), (false, false), (false, false), (false, false), (false, false), (false, false), (true, true), (false, false)] (fun w => w.ownsRow 0 32 5 (.slice A M cap) M (l.flatMap plE) ∧ l.length = M) rfl mixed (by kernel_rfl) (fun _ _ => Spares.grows) (fun _ _ _ => Spares.trans) (spares_drew _ _) (⟨owned_same3 HM.out.1.1 fun _ _ => rfl, HM.out.1.2⟩) (fun _ _ h g => ⟨owned_grow h.1 g, h.2⟩) ?_
    simp only [List.take_succ_cons, List.take_zero, List.drop_succ_cons, List.drop_zero]
    refine j_val (.pointer (some ⟨b, o, none⟩)) (by rfl) ?_ ?_
    · intro w' hC; clear hC; go_simp
    simp only [Act.put, List.setIfInBounds_toArray, List.set_cons_zero, List.set_cons_succ]
    refine j_val (.pointer (some ⟨b, o, none⟩)) (by rfl) ?_ ?_
    · intro w' hC; clear hC; go_simp
    simp only [Act.put, List.setIfInBounds_toArray, List.set_cons_zero, List.set_cons_succ]
    refine j_val (.pointer (some ⟨b, o, none⟩)) (by rfl) ?_ ?_
    · intro w' hC; clear hC; go_simp
    simp only [Act.put, List.setIfInBounds_toArray, List.set_cons_zero, List.set_cons_succ]
    refine j_val (.slice (some ⟨g, 0, none⟩) N N) (by rfl) ?_ ?_
    · intro w' hC; obtain ⟨zt, z0, z1, zp0, zp1, zp2, zp3, zp4⟩ := HF.out w' hC; clear hC; go_simp
    simp only [Act.put, List.setIfInBounds_toArray, List.set_cons_zero, List.set_cons_succ]
    refine j_val (.int .i64 (ci : Int)) (by rfl) ?_ ?_
    · intro w' hC; clear hC; go_simp
    simp only [Act.put, List.setIfInBounds_toArray, List.set_cons_zero, List.set_cons_succ]
    refine j_val (.pointer (some ⟨b, o, none⟩)) (by rfl) ?_ ?_
    · intro w' hC; clear hC; go_simp
    simp only [Act.put, List.setIfInBounds_toArray, List.set_cons_zero, List.set_cons_succ]
    refine j_val (.pointer (some ⟨b, o, none⟩)) (by rfl) ?_ ?_
    · intro w' hC; clear hC; go_simp
    simp only [Act.put, List.setIfInBounds_toArray, List.set_cons_zero, List.set_cons_succ]
    refine j_val (.pointer (some ⟨b, o, none⟩)) (by rfl) ?_ ?_
    · intro w' hC; clear hC; go_simp
    simp only [Act.put, List.setIfInBounds_toArray, List.set_cons_zero, List.set_cons_succ]
    refine j_val (.slice (some ⟨g, 0, none⟩) N N) (by rfl) ?_ ?_
    · intro w' hC; obtain ⟨zt, z0, z1, zp0, zp1, zp2, zp3, zp4⟩ := HF.out w' hC; clear hC; go_simp
    simp only [Act.put, List.setIfInBounds_toArray, List.set_cons_zero, List.set_cons_succ]
    refine j_val (.int .i64 (ci : Int)) (by rfl) ?_ ?_
    · intro w' hC; clear hC; go_simp
    simp only [Act.put, List.setIfInBounds_toArray, List.set_cons_zero, List.set_cons_succ]
    refine j_val (.pointer (some ⟨g, ci, none⟩)) (by rfl) ?_ ?_
    · intro w' hC; have j0 := HK.out.1; have j1 := HK.out.2; clear hC; go_simp
    simp only [Act.put, List.setIfInBounds_toArray, List.set_cons_zero, List.set_cons_succ]
    refine j_val (.slice A M cap) (by rfl) ?_ ?_
    · intro w' hC; obtain ⟨zt, z0, z1, zp0, zp1, zp2, zp3, zp4⟩ := HF.out w' hC; clear hC; go_simp
    simp only [Act.put, List.setIfInBounds_toArray, List.set_cons_zero, List.set_cons_succ]
    refine j_val (.agg #[.int .i64 p0, .int .i64 p1, .string ⟨p2.toArray⟩, .int .i64 p3, .int .i64 p4]) (by rfl) ?_ ?_
    · intro w' hC; obtain ⟨zt, z0, z1, zp0, zp1, zp2, zp3, zp4⟩ := HF.out w' hC; clear hC; go_simp
    simp only [Act.put, List.setIfInBounds_toArray, List.set_cons_zero, List.set_cons_succ]
    refine j_made (32) (#[.int .i64 p0, .int .i64 p1, .string ⟨p2.toArray⟩, .int .i64 p3, .int .i64 p4]) 1 (HOWN.out) (by rfl) ?_ ?_
    · intro w' hC; clear hC; go_simp
    intro g1
    simp only [Act.put, List.setIfInBounds_toArray, List.set_cons_zero, List.set_cons_succ]
    refine j_clsK (by rfl) (fun w' hC hcls hks => ?_) ?_
    · obtain ⟨A', c', w2, hr, hc2, hk2⟩ := app_place (ty := 54) hcls.1 hcls.2 (Known.get hks 0 rfl rfl).1 ⟨p0, p1, p2, p3, p4⟩ rfl HM.out.2 hC.size
      exact ⟨(A', c'), w2, exec_appK rfl rfl rfl hr, hk2, _, rfl, hc2⟩
    rintro ⟨A1, c1⟩
    dsimp only
    simp only [Act.put, List.setIfInBounds_toArray, List.set_cons_zero, List.set_cons_succ]
    refine j_val (.pointer (some ⟨g, ci, none⟩)) (by rfl) ?_ ?_
    · intro w' hC; have j0 := HK.out.1; have j1 := HK.out.2; clear hC; go_simp
    simp only [Act.put, List.setIfInBounds_toArray, List.set_cons_zero, List.set_cons_succ]
    refine wpJ_end ?_
    intro w5 hC hks hcls
    have HCw5 := Lib.hid hC
    have HLw5 := Lib.hid hcls
    clear hC hks hcls
    obtain ⟨k1, hk1, hpr⟩ := HLw5.out
    subst hk1
    have HPW := Lib.hid hpr
    obtain ⟨K1, hK1⟩ : ∃ K1, K + 1 = K1 := ⟨_, rfl⟩
    have hcv4 := HR.out.2.2.2.2.1.grow HG4.out.1
    have hvc := HVC.out
    have ho5 : OwnP w5 0 (.slice A1 (M + 1) c1) (l ++ [⟨p0, p1, p2, p3, p4⟩]) := by unfold OwnP; rw [HPW.out.len]; exact HPW.out.own
    obtain ⟨k6, s6⟩ := hcv4.stored HC0.out.1 hvc HCw5.out ho5 HPW.out.from_
    have hgS : ¬ (Value.slice A M cap).ownBlock = some g := fun e => (hcv4.inS ci _ g hvc e).2 rfl
    have hWg : Whole w5 g 54 vs.toArray := (HCw5.out.same g (hcv4.lt g hcv4.gS) hgS).trans hcv4.blk
    have f0 := hWg.free ci
    obtain ⟨_, _, x0, _⟩ := HF.out w5 HCw5.out
    obtain ⟨W6, hW6⟩ : ∃ W6, w5.setCell ⟨g, ci, none⟩ (.slice A1 (M + 1) c1) = W6 := ⟨_, rfl⟩
    rw [hW6] at k6 s6
    have hfl : (cells.set ci (l ++ [⟨p0, p1, p2, p3, p4⟩])).flatten.length = K1 := by
      have h1 := HL.out (l ++ [⟨p0, p1, p2, p3, p4⟩])
      have := HNK.out
      rw [List.length_append] at h1
      simp only [List.length_cons, List.length_nil] at h1
      omega
    have hWb4 := HG4.out.1.whole HR.out.1
    obtain ⟨r7, s7⟩ := RowIn.told (f := f) hWb4 HR.out.2.1 (by rw [HR.out.2.2.1]; rfl) HR.out.2.2.2.1 HR.out.2.2.2.2.2 s6 k6 (by rw [List.length_set]) (fun k hk => hk.imp_right fun h => h.1) hfl
    have hW6b : Whole W6 b t cs := (s6.same b hWb4.lt HR.out.2.2.2.2.2).trans hWb4
    have c6 := hW6b.cell (o + 1)
    have f6 := hW6b.free (o + 1)
    rw [HR.out.2.2.1, HNK.out.2.1] at c6
    obtain ⟨W7, hW7⟩ : ∃ W7, W6.setCell ⟨b, o + 1, none⟩ (.int .i64 (K1 : Nat)) = W7 := ⟨_, rfl⟩
    rw [hW7] at r7 s7
    have hKi : (K : Int) + 1 = (K1 : Int) := by omega
    have hKb : K1 ≤ 400000 := by omega
    have HWK := Lib.hid (wrapK (x := (K1 : Int)) (by omega) (by omega))
    have HFIT := Lib.hid (fit_any W7 r7 HPR.out (by rw [hfl]; exact hKb) (fun p hp => by
      obtain ⟨c', l', h1, h2⟩ := mem_flat.1 hp
      rcases List.mem_or_eq_of_mem_set (List.mem_of_getElem? h1) with h3 | rfl
      · exact HB.out.2.1 p (List.mem_flatten.2 ⟨l', h3, h2⟩)
      · rcases List.mem_append.1 h2 with h2 | h2
        · exact HB.out.2.1 p (List.mem_flatten.2 ⟨l, List.mem_of_getElem? HC0.out.2.1, h2⟩)
        · have : p = ⟨p0, p1, p2, p3, p4⟩ := by simpa using h2
          subst this
          exact hk))
    have H67 := Lib.hid (And.intro s6 (And.intro s7 (show ∀ k, (S k ∨ (W4.heap.size ≤ k ∧ k < W6.heap.size)) → S k ∨ W4.heap.size ≤ k from fun k hk => hk.imp_right fun h => h.1)))
    obtain ⟨y1, y2⟩ := HWK.out
    clear hKb hcv4 hvc ho5 k6 s6 hgS hWg hfl hWb4 r7 s7 hW6b hK1 hpr
    go_wp2_with (first | rw [hW6] | rw [hW7] | fail)
    refine HFIT.out.mono ?_
    rintro e w8 ⟨rfl, hto⟩
    have hlt := HR.out.2.2.2.2.1.lt
    have hbl := HR.out.1.lt
    have hsz := HSZ.out
    have hkk : Whole w8 kb 32 #[.int .i64 0, .int .i64 0, .string ⟨#[]⟩, .int .i64 0, .int .i64 0] := (RowTo.kept H67.out.1 H67.out.2.1 H67.out.2.2 hto HG4.out.2.2.2.1 (fun e => by have := hlt kb e; omega) (by omega)).trans HG4.out.2.2.1
    have HTO := Lib.hid (And.intro hto hkk)
    clear hto hkk hlt hbl hsz y1 y2 c6 f6 x0 f0
    go_wp2_with (first
      | (refine wpList_store_row rfl 32 _ _ rfl kb #[.int .i64 0, .int .i64 0, .string ⟨#[]⟩, .int .i64 0, .int .i64 0] rfl rfl 32 _ HTO.out.2 sizePl rfl (plV_one _ _ _ _ _) ?_)
      | fail)
    refine bodyPost_ret (results_pl2 rfl _ _ kb 32 (.int .i64 0) (.int .i64 0) (.string ⟨#[]⟩) (.int .i64 0) (.int .i64 0) (.bool false) rfl rfl (HTO.out.2.rowed _)) rfl ?_
    exact ⟨rfl, RowTo.close HG4.out.1 H67.out.1 H67.out.2.1 H67.out.2.2 HTO.out.1 HR.out.2.2.2.2.1.lt ⟨by have := HSZ.out; omega, HG4.out.2.2.2.1⟩ HR.out.1.lt _⟩
  · rw [e1] at HF0
    rw [e4, HUN.out _ e1]
    dsimp only
    have hiM : i < M := by have := HNK.out; omega
    obtain ⟨o0, o1, o2, o3, o4⟩ := p
    dsimp only at e5
    have e5' := e5.symm
    subst e5'
    obtain ⟨gA, rfl⟩ : ∃ gA, A = some ⟨gA, 0, none⟩ := by
      rcases HPL.out.2.2 with ⟨e, e2⟩ | ⟨g, cap, cur, e, _⟩
      · omega
      · injection e with e1 e2 e3; exact ⟨g, e1⟩
    obtain ⟨ad, x, hA, hx, hbl, hcx⟩ := Pls.at HPL.out.1 (show i < l.length from e3)
    obtain rfl : x = ⟨o0, o1, p2, o3, o4⟩ := by rw [e2] at hx; exact (Option.some.inj hx).symm
    injection hA with hA
    subst hA
    dsimp only at hcx
    have hadd : (⟨gA, 0, none⟩ : Addr).add (i * 5) = ⟨gA, i * 5, none⟩ := by rw [Addr.add_lit]; simp
    rw [hadd] at hcx
    have HP := Lib.hid hcx
    have HEX := Lib.hid e2
    have hkb := HSZ.out.2.1
    have hpb := HSZ.out.1
    have hgAS : S gA ∧ gA ≠ g := HR.out.2.2.2.2.1.inS ci (.slice (some ⟨gA, 0, none⟩) M cap) gA (by rw [← HNK.out.2.2]; exact HC0.out.2.2) rfl
    have HGA := Lib.hid hgAS
    have j0 : (0 : Int) ≤ (i : Int) := by omega
    have j1 : (i : Int) < (M : Int) := by omega
    have k0 := HKI.out.1
    have k1 := HKI.out.2
    clear e1 e2 e3 e4 hx hbl hcx hadd hgAS
    go_enter Try.func35, Try.ntmps35
    go_wp2_with (first | rw [hW0] | rw [hW1] | fail)
    refine HF0.out.mono ?_
    rintro e w2 ⟨rfl, hg2⟩
    have hgw2 := Grows.trans HX.out.1 hg2
    obtain ⟨d0, d1⟩ := HG.out w2 hgw2
    obtain ⟨q0, q1, q2, q3, q4⟩ := HP.out w2 hgw2
    have hg3 := grows_alloc w2 (.cells #[.int .i64 o0, .int .i64 o1, .string ⟨p2.toArray⟩, .int .i64 o3, .int .i64 o4] 32)
    have hm3 := Whole.made w2 32 #[.int .i64 o0, .int .i64 o1, .string ⟨p2.toArray⟩, .int .i64 o3, .int .i64 o4]
    obtain ⟨W3, hW3⟩ : ∃ W3, w2.alloc (.cells #[.int .i64 o0, .int .i64 o1, .string ⟨p2.toArray⟩, .int .i64 o3, .int .i64 o4] 32) = W3 := ⟨_, rfl⟩
    rw [hW3] at hg3 hm3
    have hs3 : W3.heap.size = w2.heap.size + 1 := by rw [← hW3, World.size_alloc]
    obtain ⟨wb, hwb⟩ : ∃ wb, w2.heap.size = wb := ⟨_, rfl⟩
    rw [hwb] at hm3
    have hp3 := hg3.whole (hg2.whole HX.out.2.1)
    have hk3 := hg3.whole (hg2.whole HX.out.2.2)
    have d2 := hp3.cell 2
    have f2 := hp3.free 2
    have x2 := hm3.cell 2
    simp only [List.getElem?_toArray, List.getElem?_cons_zero, List.getElem?_cons_succ] at d2 x2
    have hkwb : kb < wb := by have := (hg2.whole HX.out.2.2).lt; omega
    obtain ⟨W4, hW4⟩ : ∃ W4, W3.setCell ⟨pb, 2, none⟩ (.string ⟨p2.toArray⟩) = W4 := ⟨_, rfl⟩
    have hoth4 : ∀ k, k ≠ pb → W4.heap[k]? = W3.heap[k]? := fun k hk => by rw [← hW4]; exact heap_setCell_other W3 ⟨pb, 2, none⟩ k _ (fun e => hk (by simpa using e))
    have hp4 : Whole W4 pb 32 #[.int .i64 p0, .int .i64 p1, .string ⟨p2.toArray⟩, .int .i64 p3, .int .i64 p4] := by rw [← hW4]; exact hp3.put 2 _
    have hk4 : Whole W4 kb 32 #[.int .i64 0, .int .i64 0, .string ⟨#[]⟩, .int .i64 0, .int .i64 0] := (hoth4 kb (by have := HSZ.out; omega)).trans hk3
    have hw4 : Whole W4 wb 32 #[.int .i64 o0, .int .i64 o1, .string ⟨p2.toArray⟩, .int .i64 o3, .int .i64 o4] := (hoth4 wb (by have := HSZ.out; omega)).trans hm3
    have hg4 : Grows w W4 := by rw [← hW4]; exact Below.setCell (p := ⟨pb, 2, none⟩) (Grows.trans hgw2 hg3) (by have := HSZ.out; show w.heap.size ≤ pb; omega) _
    have HG4 := Lib.hid (And.intro hg4 (And.intro hp4 (And.intro hk4 hw4)))
    have HWBL := Lib.hid (show kb < wb from hkwb)
    clear hg2 hgw2 hg3 hm3 hs3 hp3 hk3 hkwb hoth4 hp4 hk4 hw4 hg4 ck
    dsimp only [idxI]
    go_wp2_with (first | rw [hW3] | rw [hW4] | fail)
    clear d0 d1 d2 f2 x2 q0 q1 q2 q3 q4 hW3 hW4 hwb
    refine wp_region_facts_tail (E := Grows) 10 [valFact (.pointer (some ⟨b, o, none⟩)), valFact (.pointer (some ⟨b, o, none⟩)), valFact (.pointer (some ⟨b, o, none⟩)), valFact (.slice (some ⟨g, 0, none⟩) N N), valFact (.int .i64 (ci : Int)), valFact (.pointer (some ⟨g, ci, none⟩)), valFact (.slice (some ⟨gA, 0, none⟩) M cap), valFact (.int .i64 (i : Int)), valFact (.agg #[.int .i64 p0, .int .i64 p1, .string ⟨p2.toArray⟩, .int .i64 p3, .int .i64 p4]), valFact (.pointer (some ⟨gA, i * 5, none⟩))] mixed (by kernel_rfl) (fun _ _ _ => Grows.trans) (grows_drew _) ?_
    simp only [List.take_succ_cons, List.take_zero, List.drop_succ_cons, List.drop_zero]
    refine f_val (.pointer (some ⟨b, o, none⟩)) (by rfl) ?_ ?_
    · intro w' hC; clear hC; go_simp
    simp only [Act.put, List.setIfInBounds_toArray, List.set_cons_zero, List.set_cons_succ]
    refine f_val (.pointer (some ⟨b, o, none⟩)) (by rfl) ?_ ?_
    · intro w' hC; clear hC; go_simp
    simp only [Act.put, List.setIfInBounds_toArray, List.set_cons_zero, List.set_cons_succ]
    refine f_val (.pointer (some ⟨b, o, none⟩)) (by rfl) ?_ ?_
    · intro w' hC; clear hC; go_simp
    simp only [Act.put, List.setIfInBounds_toArray, List.set_cons_zero, List.set_cons_succ]
    refine f_val (.slice (some ⟨g, 0, none⟩) N N) (by rfl) ?_ ?_
    · intro w' hC; obtain ⟨z0, z1⟩ := HG.out w' (Grows.trans HG4.out.1 hC); clear hC; go_simp
    simp only [Act.put, List.setIfInBounds_toArray, List.set_cons_zero, List.set_cons_succ]
    refine f_val (.int .i64 (ci : Int)) (by rfl) ?_ ?_
    · intro w' hC; clear hC; go_simp
    simp only [Act.put, List.setIfInBounds_toArray, List.set_cons_zero, List.set_cons_succ]
    refine f_val (.pointer (some ⟨g, ci, none⟩)) (by rfl) ?_ ?_
    · intro w' hC; have j0 := HKI.out.1; have j1 := HKI.out.2; clear hC; go_simp
    simp only [Act.put, List.setIfInBounds_toArray, List.set_cons_zero, List.set_cons_succ]
    refine f_val (.slice (some ⟨gA, 0, none⟩) M cap) (by rfl) ?_ ?_
    · intro w' hC; obtain ⟨z0, z1⟩ := HG.out w' (Grows.trans HG4.out.1 hC); clear hC; go_simp
    simp only [Act.put, List.setIfInBounds_toArray, List.set_cons_zero, List.set_cons_succ]
    refine f_val (.int .i64 (i : Int)) (by rfl) ?_ ?_
    · intro w' hC; clear hC; go_simp
    simp only [Act.put, List.setIfInBounds_toArray, List.set_cons_zero, List.set_cons_succ]
    refine f_val (.agg #[.int .i64 p0, .int .i64 p1, .string ⟨p2.toArray⟩, .int .i64 p3, .int .i64 p4]) (by rfl) ?_ ?_
    · intro w' hC; have q := hC.whole HG4.out.2.1; have q0 := q.cell 0; have q1 := q.cell 1; have q2 := q.cell 2; have q3 := q.cell 3; have q4 := q.cell 4; simp only [List.getElem?_toArray, List.getElem?_cons_zero, List.getElem?_cons_succ] at q0 q1 q2 q3 q4; clear hC; go_simp
    simp only [Act.put, List.setIfInBounds_toArray, List.set_cons_zero, List.set_cons_succ]
    refine f_val (.pointer (some ⟨gA, i * 5, none⟩)) (by rfl) ?_ ?_
    · intro w' hC; clear hC; go_simp
    simp only [Act.put, List.setIfInBounds_toArray, List.set_cons_zero, List.set_cons_succ]
    refine wpF_end ?_
    intro w5 hC hks
    have HCw5 := Lib.hid hC
    clear hC hks
    have hgw5 := Grows.trans HG4.out.1 HCw5.out
    obtain ⟨cur, hcur, hfit, hset⟩ := own_set (w := w5) (g := gA) (n := M) (c := cap) (l := l) (by have h1 := owned_grow HPL.out.2 hgw5; rw [HNK.out.2.2] at h1; exact h1) HNK.out.2.2 hiM ⟨p0, p1, p2, p3, p4⟩
    obtain ⟨W6, hW6⟩ : ∃ W6, w5.setRow gA (cur.toList.take (i * 5) ++ (#[.int .i64 p0, .int .i64 p1, .string ⟨p2.toArray⟩, .int .i64 p3, .int .i64 p4] : Array Value).toList ++ cur.toList.drop (i * 5 + (#[.int .i64 p0, .int .i64 p1, .string ⟨p2.toArray⟩, .int .i64 p3, .int .i64 p4] : Array Value).size)).toArray = W6 := ⟨_, rfl⟩
    have hown6 : W6.ownsRow 0 32 5 (.slice (some ⟨gA, 0, none⟩) M cap) M ((l.set i ⟨p0, p1, p2, p3, p4⟩).flatMap plE) := by rw [← hW6]; exact hset _ rfl
    have hoth6 : ∀ k, k ≠ gA → W6.heap[k]? = w5.heap[k]? := fun k hk => by rw [← hW6]; exact setRow_other w5 gA k _ hk
    have hz6 : W6.heap.size = w5.heap.size := by rw [← hW6]; simp
    have hm6 : W6.os = w5.os ∧ W6.tape = w5.tape ∧ W6.output = w5.output := by rw [← hW6]; exact ⟨rfl, rfl, rfl⟩
    have hgAl := HR.out.2.2.2.2.1.lt gA HGA.out.1
    have hlt4 : ∀ k, w.heap.size ≤ k → ∀ (c : Array Value), Whole W4 k 32 c → Whole W6 k 32 c := fun k hk c hw => (hoth6 k (by omega)).trans (HCw5.out.whole hw)
    have hw6 := hlt4 wb (by have := HG4.out.2.2.1.lt; have := HSZ.out; have := HWBL.out; omega) _ HG4.out.2.2.2
    have hk6 := hlt4 kb (by have := HSZ.out; omega) _ HG4.out.2.2.1
    have x0 := hw6.cell 0
    have x1 := hw6.cell 1
    have x2 := hw6.cell 2
    have x3 := hw6.cell 3
    have x4 := hw6.cell 4
    simp only [List.getElem?_toArray, List.getElem?_cons_zero, List.getElem?_cons_succ] at x0 x1 x2 x3 x4
    have H6 := Lib.hid (And.intro hown6 (And.intro hoth6 (And.intro hz6 (And.intro hm6 hk6))))
    have HCU := Lib.hid (And.intro hcur hfit)
    clear hgw5 hcur hfit hset hown6 hoth6 hz6 hm6 hgAl hlt4 hw6 hk6
    go_wp2_with (first
      | (refine wpList_store_at rfl 32 _ _ rfl gA (i * 5) #[.int .i64 p0, .int .i64 p1, .string ⟨p2.toArray⟩, .int .i64 p3, .int .i64 p4] rfl rfl 32 cur HCU.out.1 sizePl HCU.out.2 (by intro u hu; simp only [List.mem_cons, List.not_mem_nil, or_false] at hu; rcases hu with rfl | rfl | rfl | rfl | rfl <;> simp [Value.oneCell']) ?_; rw [hW6])
      | (refine wpList_store_row rfl 32 _ _ rfl kb #[.int .i64 o0, .int .i64 o1, .string ⟨p2.toArray⟩, .int .i64 o3, .int .i64 o4] rfl rfl 32 _ H6.out.2.2.2.2 sizePl rfl (plV_one _ _ _ _ _) ?_)
      | fail)
    refine bodyPost_ret (results_pl2 rfl _ _ kb 32 (.int .i64 o0) (.int .i64 o1) (.string ⟨p2.toArray⟩) (.int .i64 o3) (.int .i64 o4) (.bool true) rfl rfl (H6.out.2.2.2.2.rowed _)) rfl ?_
    obtain ⟨hown6, hoth6, hz6, hm6, hk6⟩ := H6.out
    have hcv4 := HR.out.2.2.2.2.1.grow HG4.out.1
    have hvc : vs[ci]? = some (.slice (some ⟨gA, 0, none⟩) M cap) := by rw [← HNK.out.2.2]; exact HC0.out.2.2
    have hvs : vs.set ci (.slice (some ⟨gA, 0, none⟩) M cap) = vs := by
      obtain ⟨h1, h2⟩ := List.getElem?_eq_some_iff.1 hvc
      rw [← h2]
      exact List.set_getElem_self h1
    have hsame : ∀ k, k < W4.heap.size → k ≠ gA → W6.heap[k]? = W4.heap[k]? := fun k hk hne => (hoth6 k hne).trans (HCw5.out.block k hk)
    have hle : W4.heap.size ≤ W6.heap.size := by rw [hz6]; exact HCw5.out.size
    have hll : (l.set i ⟨p0, p1, p2, p3, p4⟩).length = M := by rw [List.length_set]; exact HNK.out.2.2
    have k6 := hcv4.turn (w' := W6) (l := l.set i ⟨p0, p1, p2, p3, p4⟩) HC0.out.1 hvc (v := .slice (some ⟨gA, 0, none⟩) M cap) (by rw [hvs]; exact (hsame g (hcv4.lt g hcv4.gS) (Ne.symm HGA.out.2)).trans hcv4.blk) hle (by unfold OwnP; rw [hll]; exact hown6) (fun k hk => .inl hk)
      (fun k hk hkg hkv => hsame k (hcv4.lt k hk) fun e => hkv (by subst e; rfl))
    rw [hvs] at k6
    have s6 : Spares S W4 W6 := ⟨by rw [hm6.1]; exact HCw5.out.os, by rw [hm6.2.1]; exact HCw5.out.tape, by rw [hm6.2.2]; exact HCw5.out.output, hle, fun k hk hne => hsame k hk fun e => hne (e ▸ HGA.out.1)⟩
    have hfl : (cells.set ci (l.set i ⟨p0, p1, p2, p3, p4⟩)).flatten.length = cells.flatten.length := by
      have h1 := HL.out (l.set i ⟨p0, p1, p2, p3, p4⟩)
      rw [List.length_set] at h1
      omega
    have hbS := HR.out.2.2.2.2.2
    have hWb6 : Whole W6 b t cs := (s6.same b (HG4.out.1.whole HR.out.1).lt hbS).trans (HG4.out.1.whole HR.out.1)
    refine ⟨rfl, RowTo.close HG4.out.1 s6 (Spares.refl _ _) (fun k hk => hk.imp_right fun h => h.1) (w8 := W6) ⟨⟨_, ⟨g, vs, cs, hWb6, ?_, ?_, HR.out.2.2.2.1, k6, ?_⟩, fun k hk => .inl hk⟩, Spares.refl _ _⟩ HR.out.2.2.2.2.1.lt ⟨by have := HSZ.out; omega, HG4.out.2.2.1.lt⟩ HR.out.1.lt _⟩
    · rw [List.length_set]; exact HR.out.2.1
    · rw [hfl]; exact HR.out.2.2.1
    · rintro (e | e)
      · exact hbS e
      · have := HR.out.1.lt; have := HG4.out.1.size; omega
end Go.Proofs.Ytadgbobemmfjoaa
