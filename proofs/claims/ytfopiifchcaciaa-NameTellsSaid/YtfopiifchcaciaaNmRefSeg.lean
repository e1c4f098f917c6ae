/-
  The walk of the document's answer's Segments.
-/
import Derived.Test.YtfopiifchcaciaaNmSeg
import Derived.Test.YtfopiifchcaciaaNmSame
import Derived.Test.YtfopiifchcaciaaNmRefParse
import Derived.Test.YtfopiifchcaciaaWalkBits
import Derived.Deep.RegionHeld3
namespace Go.Proofs.Ytfopiifchcaciaa
open Go.RowKit
set_option linter.unusedSimpArgs false
set_option linter.unusedVariables false

theorem rise_get {xs : List Int} {p : Nat} {x : Int} (h : xs[p]? = some x) : xs.getD p 0 = x := by simp [h]
/-- One more is told, which is there already. -/
theorem told_again {xs ys zs : List Int} {nn : Int} {p : Nat} (hm : ∀ x, x ∈ xs ↔ x ∈ ys) (hz : zs = ys ++ [nn]) (h : xs[p]? = some nn) : ∀ x, x ∈ xs ↔ x ∈ zs := by
  intro x
  subst hz
  rw [List.mem_append, List.mem_singleton, hm x]
  refine ⟨.inl, ?_⟩
  rintro (h1 | rfl)
  · exact h1
  · exact (hm _).1 (List.mem_of_getElem? h)
theorem told_new {xs ys zs : List Int} {nn : Int} {p : Nat} (hm : ∀ x, x ∈ xs ↔ x ∈ ys) (hz : zs = ys ++ [nn]) : ∀ x, x ∈ xs.take p ++ nn :: xs.drop p ↔ x ∈ zs := by
  intro x
  subst hz
  rw [mem_put, List.mem_append, List.mem_singleton, hm x]
  exact Or.comm

section
variable {ops : Array Oper} {rest : List Oper} {o : Oper} {a : Act} {w : World} {Q : Exit → Act → World → Prop} {K : Act → World → Prop} {E : Prop}
theorem step_append_ints (hgd : o.guard = none) (s x : Operand) (ho : o.op = .call { callee := .builtin .append, args := #[s, x], argTypes := #[28, 28] })
    {base : Nat} {A0 : Option Addr} {n c0 : Nat} {xs : List Int} (hs : a.eval s = .slice A0 n c0) (hown : w.ownsRow base 3 1 (.slice A0 n c0) n (xs.map intV))
    {A : Option Addr} {m c B : Nat} {ys : List Int} (hx : a.eval x = .slice A m c) (hr : Row w B A m (ys.map intV)) (hbare : A = none → c = 0) (k : Nat) (hk : n + m = k) (hk2 : k ≤ 1000000000000) (hbase : base ≤ w.heap.size)
    (h : ∀ A' c' w', w'.ownsRow base 3 1 (.slice A' k c') k ((xs ++ ys).map intV) → w.grownBy w' (Value.slice A0 n c0).ownBlock → Below base w w' → ((Value.slice A' k c').ownBlock = (Value.slice A0 n c0).ownBlock ∨ (Value.slice A' k c').ownBlock = some w.heap.size) → K (a.put o.dst (.slice A' k c')) w') : if Region.wanted o (yielded ops a.tmps) = true then Oper.wp Try.prog o a w K Q else E := by
  subst hk
  have hwt : Region.wanted o (yielded ops a.tmps) = true := by simp [Region.wanted, hgd]
  rw [if_pos hwt]
  obtain ⟨A', c', w', hrun, h2, h3, h4, h5⟩ := run_append_ints (ty := o.type) hown hr hbare hk2 hbase
  unfold Oper.wp execOp
  simp only [ho, resolve, invoke, builtin, Sem.run_bind, Sem.run_pure, Result.andThen_ok, List.map_toArray, List.map_cons, List.map_nil, hs, hx, hrun]
  exact h A' c' w' h2 h3 h4 h5
end
theorem row_empty (w : World) (B : Nat) (A : Option Addr) : Row w B A 0 [] := ⟨rfl, fun k v hv => by simp at hv⟩
set_option maxRecDepth 100000 in
set_option maxHeartbeats 4000000 in
theorem ref_segs_any (A : Option Addr) (n c : Nat) (ls : List (List UInt8)) (w : World) (hs : Strs w A n c ls) (hn : n ≤ 1000000) :
    Calls Try.prog 16 #[.slice A n c] w fun e w' => ∃ A' c', e = .returned (.slice A' (setP (numsP ls)).length c') ∧ w'.ownsRow w.heap.size 3 1 (.slice A' (setP (numsP ls)).length c') (setP (numsP ls)).length ((setP (numsP ls)).map intV) ∧ Below w.heap.size w w' := by
  have HS := Lib.hid hs
  clear hs
  go_enter Try.func16, Try.ntmps16
  go_wp2_with (fail)
  go_loopw [3, 4] (fun o i wr => ∃ (LA : Option Addr) (lc m j : Nat) (xs : List Int), j ≤ n ∧ m ≤ j ∧ i = .int .i64 (j : Int) ∧ o = .slice LA m lc ∧ Hid (Rise xs ∧ ∀ x, x ∈ xs ↔ x ∈ numsP (ls.take j)) ∧ Hid (wr.ownsRow w.heap.size 3 1 (.slice LA m lc) m (xs.map intV)) ∧ Hid (Grows w wr)) (fun _ i _ => n - (intOf i).toNat)
  case atStart => exact ⟨none, 0, 0, 0, [], by omega, by omega, rfl, rfl, Lib.hid ⟨List.Pairwise.nil, fun x => Iff.rfl⟩, Lib.hid (World.ownsRow_nil _ _ _ _), Lib.hid (Grows.refl _)⟩
  case round =>
    obtain ⟨LA, lc, m, j, xs, hj, hm, rfl, rfl, HX, HO, HG⟩ := hrel
    by_cases hlt : j < n
    · obtain ⟨ad, l, rfl, hcell, hget, hll⟩ := (HS.out.grow HG.out).get hlt
      have hlt' : (j : Int) < (n : Int) := by omega
      have hjw : IntKind.i64.wrap ((j : Int) + 1) = ((j + 1 : Nat) : Int) := by rw [IntWalk.i64_in _ (by omega)]; omega
      have HGET := Lib.hid hget
      have HP := Lib.hid (ref_parse_any l hll wr)
      clear hget
      go_wp2_with (fail)
      refine HP.out.mono ?_
      rintro e w2 ⟨rfl, hb⟩
      have HG2 := Lib.hid (Grows.trans HG.out hb)
      have HO2 := Lib.hid (owned_grow HO.out hb)
      clear hb
      unfold tripV
      obtain ⟨⟨k, nn, is⟩, ht⟩ : ∃ t, trip (parseP l) = t := ⟨_, rfl⟩
      have HT := Lib.hid ht
      rw [ht]
      dsimp only
      clear ht
      have hseg := seg_trip l k nn is HT.out
      have hnx := nums_take ls j l HGET.out
      rw [hseg] at hnx
      cases is with
      | false =>
        rw [if_neg (by simp)] at hnx
        have HNX := Lib.hid hnx
        clear hseg hnx
        go_wp2_with (fail)
        exact ⟨⟨LA, lc, m, j + 1, xs, by omega, by omega, rfl, rfl, Lib.hid (by rw [HNX.out]; simpa using HX.out), HO2, HG2⟩, by simp [intOf]; omega⟩
      | true =>
        by_cases hk : k = 1
        · rw [if_pos ⟨rfl, hk⟩] at hnx
          have HNX := Lib.hid hnx
          subst hk
          clear hseg hnx
          go_wp2_with (fail)
          go_loopw [8] (fun a wq => ∃ p, p ≤ m ∧ a = .int .i64 (p : Int) ∧ Hid (∀ i, i < p → i < xs.length → xs.getD i 0 < nn) ∧ wq = w2) (fun a _ => m - (intOf a).toNat)
          case atStart => exact ⟨0, by omega, rfl, Lib.hid (fun i hi => by omega), rfl⟩
          case round =>
            obtain ⟨p, hp, rfl, HL, rfl⟩ := hrel
            have hpw : IntKind.i64.wrap ((p : Int) + 1) = ((p + 1 : Nat) : Int) := by rw [IntWalk.i64_in _ (by omega)]; omega
            by_cases hpm : p < m
            · obtain ⟨ad2, x, rfl, hc2, hx2, hb2⟩ := row_int (Row.owned HO2.out) hpm
              have hpm' : (p : Int) < (m : Int) := by omega
              have HX2 := Lib.hid hx2
              clear hx2
              by_cases hlx : x < nn
              · go_wp2_with (fail)
                exact ⟨⟨p + 1, by omega, rfl, Lib.hid (fun i hi hi2 => by
                  rcases Nat.lt_or_ge i p with h | h
                  · exact HL.out i h hi2
                  · obtain rfl : i = p := by omega
                    rw [rise_get HX2.out]; exact hlx), trivial⟩, by simp [intOf]; omega⟩
              · by_cases hxe : x = nn
                · subst hxe
                  go_wp2_with (fail)
                  exact ⟨⟨some ad2, lc, m, j + 1, xs, by omega, by omega, rfl, rfl, Lib.hid ⟨HX.out.1, told_again HX.out.2 (by rw [HNX.out]; rfl) HX2.out⟩, HO2, HG2⟩, by simp [intOf]; omega⟩
                · go_wp2_with (fail)
                  have hxl : xs.length = m := by have := HO2.out.1; simpa using this
                  have hcap2 : m ≤ lc := by
                    rcases HO2.out.2 with ⟨h1, _⟩ | ⟨g, cap, cur, h1, h2, h3, h4, _⟩
                    · cases h1
                    · injection h1 with q1 q2 q3
                      omega
                  have j1 : (p : Int) ≤ (m : Int) := by omega
                  have j2 : (p : Int) ≤ (lc : Int) := by omega
                  have j3 : (m : Int) ≤ (lc : Int) := by omega
                  have nlc : ¬ lc = p := by omega
                  have HRT : Hid (∀ v, Grows wr v → Row v v.heap.size (some ad2) p ((xs.take p).map intV)) := Lib.hid fun v hv => by rw [List.map_take]; exact (hv.row (Row.owned HO2.out)).first (by omega)
                  have HRD : Hid (∀ v, Grows wr v → Row v v.heap.size (some (ad2.add p)) (m - p) ((xs.drop p).map intV)) := Lib.hid fun v hv => by
                    have h := (hv.row (Row.owned HO2.out)).behind (k := p) (cap := lc) (by omega) (by omega)
                    rw [if_neg nlc] at h
                    rw [List.map_drop]
                    exact h
                  have hS0 : Grows wr wr.drew := grows_drew wr
                  go_region_held3 (fun w' => Grows wr w') (with_reducible first | assumption | exact Grows.trans (by assumption) (grows_alloc _ _)) (first
                    | (refine step_append_ints (by rfl) (.tmp 63) (.tmp 66) (by rfl) (base := wr.heap.size) (by rfl) HO7.out (by rfl) (HRD.out _ hS7) (fun h => by cases h) (p + 1 + (m - p)) (by omega) (by omega) (by first | exact Nat.le_refl _ | (simp; done) | (simp; omega) | (have := hS4.size; simp; omega) | (have := hS7.size; simp; omega)) ?_
                       intro A9 c9 w9 ho9 hg9 hb9 h59
                       have HO9 := Lib.hid ho9
                       have hS9 : Grows wr w9 := Below.trans hS7 hb9
                       clear ho9 hg9 hb9 h59)
                    | (refine step_append_ints (by rfl) (.tmp 60) (.tmp 62) (by rfl) (base := wr.heap.size) (by rfl) (by first | exact HO4.out | exact owned_grow HO4.out (grows_alloc _ _)) (ys := [nn]) (by rfl) (by first | exact Whole.row HL4.out [intV nn] 1 rfl rfl | exact Whole.row (Whole.made w4 _ _) [intV nn] 1 rfl rfl) (fun h => by cases h) (p + 1) (by omega) (by omega) (by first | exact Nat.le_refl _ | (simp; done) | (simp; omega) | (have := hS4.size; simp; omega) | (have := hS7.size; simp; omega)) ?_
                       intro A7 c7 w7 ho7 hg7 hb7 h57
                       have HO7 := Lib.hid ho7
                       have hS7 : Grows wr w7 := Below.trans (by first | assumption | exact Grows.trans (grows_drew wr) (grows_alloc _ _) | exact Grows.trans (Grows.trans (grows_drew wr) (grows_alloc _ _)) (grows_alloc _ _) | exact Grows.trans hS4 (grows_alloc _ _)) hb7
                       clear ho7 hg7 hb7 h57)
                    | (refine step_append_ints (by rfl) (.tmp 56) (.tmp 59) (by rfl) (base := wr.heap.size) (xs := []) (by rfl) (by
                       first
                             | exact World.ownsRow_lit _ #[] 0 (Nat.le_refl _) (Nat.zero_le _) rfl
                             | exact owned_grow (World.ownsRow_lit wr #[] 0 (Nat.le_refl _) (Nat.zero_le _) rfl) (grows_drew _)
                             | exact owned_grow (World.ownsRow_lit wr #[] 0 (Nat.le_refl _) (Nat.zero_le _) rfl) (Grows.trans (grows_alloc _ _) (grows_drew _))
                             | (have h := World.ownsRow_lit (e := 3) (size := 1) (base := wr.heap.size) (wr.alloc (.cells #[.int .i64 nn] 3)) #[] 0 (le_alloc _ _) (Nat.zero_le _) rfl
                                rw [World.size_alloc] at h
                                exact owned_grow h (grows_drew _))) (ys := xs.take p) (by rfl) (HRT.out _ (by first | assumption | exact Grows.trans (grows_drew wr) (grows_alloc _ _) | exact Grows.trans (Grows.trans (grows_drew wr) (grows_alloc _ _)) (grows_alloc _ _) | exact Grows.trans hS4 (grows_alloc _ _))) (fun h => by cases h) p (by omega) (by omega) (by first | exact Nat.le_refl _ | (simp; done) | (simp; omega) | (have := hS4.size; simp; omega) | (have := hS7.size; simp; omega)) ?_
                       intro A4 c4 w4 ho4 hg4 hb4 h54
                       have HO4 := Lib.hid ho4
                       have hS4 : Grows wr w4 := Below.trans (by first | assumption | exact Grows.trans (grows_drew wr) (grows_alloc _ _) | exact Grows.trans (Grows.trans (grows_drew wr) (grows_alloc _ _)) (grows_alloc _ _) | exact Grows.trans hS4 (grows_alloc _ _)) hb4
                       first
                           | (have HL4 : Hid (Whole w4 (wr.heap.size + 1) 3 #[.int .i64 nn]) := by
                                have h := Whole.made (wr.alloc (.cells #[] 3)) 3 #[.int .i64 nn]
                                rw [World.size_alloc] at h
                                exact Lib.hid (Whole.same (w := ((wr.alloc (.cells #[] 3)).alloc (.cells #[.int .i64 nn] 3)).drew) h (hg4.block _ h.lt (by intro e; simp [Value.ownBlock] at e))))
                           | (have HL4 : Hid (Whole w4 wr.heap.size 3 #[.int .i64 nn]) := by
                                have h := (Whole.made wr 3 #[.int .i64 nn]).alloc (.cells #[] 3)
                                exact Lib.hid (Whole.same (w := ((wr.alloc (.cells #[.int .i64 nn] 3)).alloc (.cells #[] 3)).drew) h (hg4.block _ h.lt (by intro e; simp [Value.ownBlock] at e))))
                           | skip
                       clear ho4 hg4 hb4 h54))
                  all_goals
                    go_wp2_with (fail)
                    refine ⟨⟨A9, c9, p + 1 + (m - p), j + 1, xs.take p ++ nn :: xs.drop p, by omega, by omega, rfl, rfl, Lib.hid ⟨set_put xs nn p HX.out.1 (fun i hi hi2 => HL.out i hi hi2) (fun hpl => by rw [rise_get HX2.out]; omega), told_new HX.out.2 (by rw [HNX.out]; rfl)⟩, Lib.hid ?_, Lib.hid (Grows.trans HG2.out hS9)⟩, by simp [intOf]; omega⟩
                    have h := owned_from (base' := w.heap.size) HO9.out HG2.out.size
                    simpa using h
            · have HPM : Hid (p = m) := Lib.hid (by omega)
              have hpm' : ¬ (p : Int) < (m : Int) := by omega
              have j1 : (p : Int) ≤ (m : Int) := by omega
              have hxl : xs.length = m := by have := HO2.out.1; simpa using this
              clear hp hpm
              have hcap2 : m ≤ lc := by
                rcases HO2.out.2 with ⟨h1, h2⟩ | ⟨g, cap, cur, h1, h2, h3, h4, _⟩
                · omega
                · injection h1 with q1 q2 q3
                  omega
              cases LA with
              | none =>
                have HN0 : Hid (m = 0 ∧ lc = 0) := Lib.hid (by
                  rcases HO2.out.2 with ⟨h1, _⟩ | ⟨g, cap, cur, h1, _⟩
                  · injection h1 with q1 q2 q3
                    exact ⟨q2, q3⟩
                  · cases h1)
                go_wp2_with (fail)
                have j2 : (p : Int) ≤ (lc : Int) := by have := HPM.out; omega
                have j3 : (m : Int) ≤ (lc : Int) := by have := HPM.out; omega
                have HRT : Hid (∀ v, Grows wr v → Row v v.heap.size none p ((xs.take p).map intV)) := Lib.hid fun v hv => by rw [List.map_take]; exact (hv.row (Row.owned HO2.out)).first (by have := HPM.out; omega)
                have HRD : Hid (∀ v, Grows wr v → Row v v.heap.size none (m - p) ((xs.drop p).map intV)) := Lib.hid fun v hv => by
                  have h := (hv.row (Row.owned HO2.out)).behind (k := p) (cap := lc) (by have := HPM.out; omega) (by omega)
                  rw [List.map_drop]
                  simpa using h
                have hS0 : Grows wr wr.drew := grows_drew wr
                go_region_held3 (fun w' => Grows wr w') (with_reducible first | assumption | exact Grows.trans (by assumption) (grows_alloc _ _)) (first
                  | (refine step_append_ints (by rfl) (.tmp 63) (.tmp 66) (by rfl) (base := wr.heap.size) (by rfl) HO7.out (by rfl) (HRD.out _ hS7) (fun _ => by have := HN0.out; omega) (p + 1 + (m - p)) (by omega) (by omega) (by first | exact Nat.le_refl _ | (simp; done) | (simp; omega) | (have := hS4.size; simp; omega) | (have := hS7.size; simp; omega)) ?_
                     intro A9 c9 w9 ho9 hg9 hb9 h59
                     have HO9 := Lib.hid ho9
                     have hS9 : Grows wr w9 := Below.trans hS7 hb9
                     clear ho9 hg9 hb9 h59)
                  | (refine step_append_ints (by rfl) (.tmp 60) (.tmp 62) (by rfl) (base := wr.heap.size) (by rfl) (by first | exact HO4.out | exact owned_grow HO4.out (grows_alloc _ _)) (ys := [nn]) (by rfl) (by first | exact Whole.row HL4.out [intV nn] 1 rfl rfl | exact Whole.row (Whole.made w4 _ _) [intV nn] 1 rfl rfl) (fun h => by cases h) (p + 1) (by omega) (by omega) (by first | exact Nat.le_refl _ | (simp; done) | (simp; omega) | (have := hS4.size; simp; omega) | (have := hS7.size; simp; omega)) ?_
                     intro A7 c7 w7 ho7 hg7 hb7 h57
                     have HO7 := Lib.hid ho7
                     have hS7 : Grows wr w7 := Below.trans (by first | assumption | exact Grows.trans (grows_drew wr) (grows_alloc _ _) | exact Grows.trans (Grows.trans (grows_drew wr) (grows_alloc _ _)) (grows_alloc _ _) | exact Grows.trans hS4 (grows_alloc _ _)) hb7
                     clear ho7 hg7 hb7 h57)
                  | (refine step_append_ints (by rfl) (.tmp 56) (.tmp 59) (by rfl) (base := wr.heap.size) (xs := []) (by rfl) (by
                     first
                           | exact World.ownsRow_lit _ #[] 0 (Nat.le_refl _) (Nat.zero_le _) rfl
                           | exact owned_grow (World.ownsRow_lit wr #[] 0 (Nat.le_refl _) (Nat.zero_le _) rfl) (grows_drew _)
                           | exact owned_grow (World.ownsRow_lit wr #[] 0 (Nat.le_refl _) (Nat.zero_le _) rfl) (Grows.trans (grows_alloc _ _) (grows_drew _))
                           | (have h := World.ownsRow_lit (e := 3) (size := 1) (base := wr.heap.size) (wr.alloc (.cells #[.int .i64 nn] 3)) #[] 0 (le_alloc _ _) (Nat.zero_le _) rfl
                              rw [World.size_alloc] at h
                              exact owned_grow h (grows_drew _))) (ys := xs.take p) (by rfl) (HRT.out _ (by first | assumption | exact Grows.trans (grows_drew wr) (grows_alloc _ _) | exact Grows.trans (Grows.trans (grows_drew wr) (grows_alloc _ _)) (grows_alloc _ _) | exact Grows.trans hS4 (grows_alloc _ _))) (fun _ => HN0.out.2) p (by omega) (by omega) (by first | exact Nat.le_refl _ | (simp; done) | (simp; omega) | (have := hS4.size; simp; omega) | (have := hS7.size; simp; omega)) ?_
                     intro A4 c4 w4 ho4 hg4 hb4 h54
                     have HO4 := Lib.hid ho4
                     have hS4 : Grows wr w4 := Below.trans (by first | assumption | exact Grows.trans (grows_drew wr) (grows_alloc _ _) | exact Grows.trans (Grows.trans (grows_drew wr) (grows_alloc _ _)) (grows_alloc _ _) | exact Grows.trans hS4 (grows_alloc _ _)) hb4
                     first
                         | (have HL4 : Hid (Whole w4 (wr.heap.size + 1) 3 #[.int .i64 nn]) := by
                              have h := Whole.made (wr.alloc (.cells #[] 3)) 3 #[.int .i64 nn]
                              rw [World.size_alloc] at h
                              exact Lib.hid (Whole.same (w := ((wr.alloc (.cells #[] 3)).alloc (.cells #[.int .i64 nn] 3)).drew) h (hg4.block _ h.lt (by intro e; simp [Value.ownBlock] at e))))
                         | (have HL4 : Hid (Whole w4 wr.heap.size 3 #[.int .i64 nn]) := by
                              have h := (Whole.made wr 3 #[.int .i64 nn]).alloc (.cells #[] 3)
                              exact Lib.hid (Whole.same (w := ((wr.alloc (.cells #[.int .i64 nn] 3)).alloc (.cells #[] 3)).drew) h (hg4.block _ h.lt (by intro e; simp [Value.ownBlock] at e))))
                         | skip
                     clear ho4 hg4 hb4 h54))
                all_goals
                  go_wp2_with (fail)
                  refine ⟨⟨A9, c9, p + 1 + (m - p), j + 1, xs.take p ++ nn :: xs.drop p, by omega, by omega, rfl, rfl, Lib.hid ⟨set_put xs nn p HX.out.1 (fun i hi hi2 => HL.out i hi hi2) (fun hpl => absurd hpl (by have := HPM.out; have := HO2.out.1; simp at this; omega)), told_new HX.out.2 (by rw [HNX.out]; rfl)⟩, Lib.hid ?_, Lib.hid (Grows.trans HG2.out hS9)⟩, by simp [intOf]; omega⟩
                  have h := owned_from (base' := w.heap.size) HO9.out HG2.out.size
                  simpa using h
              | some ad2 =>
                by_cases hlp : lc = p
                · skip
                  obtain rfl : p = lc := hlp.symm
                  have j3 : (m : Int) ≤ (p : Int) := by have := HPM.out; omega
                  have HRT : Hid (∀ v, Grows wr v → Row v v.heap.size (some ad2) p ((xs.take p).map intV)) := Lib.hid fun v hv => by rw [List.map_take]; exact (hv.row (Row.owned HO2.out)).first (by have := HPM.out; omega)
                  have HRD : Hid (∀ v, Grows wr v → Row v v.heap.size (some ad2) (m - p) ((xs.drop p).map intV)) := Lib.hid fun v hv => by
                    have h := (hv.row (Row.owned HO2.out)).behind (k := p) (cap := p) (by have := HPM.out; omega) (by omega)
                    rw [if_pos rfl] at h
                    rw [List.map_drop]
                    exact h
                  have HPB := Lib.hid (show p ≤ 1000000 by have := HPM.out; omega)
                  have HDR := Lib.hid (show xs.drop p = [] from List.drop_eq_nil_of_le (by have := HPM.out; omega))
                  go_wp2_with (fail)
                  have hS0 : Grows wr wr.drew := grows_drew wr
                  go_region_held3 (fun w' => Grows wr w') (with_reducible first | assumption | exact Grows.trans (by assumption) (grows_alloc _ _)) (first
                    | (refine step_append_ints (by rfl) (.tmp 63) (.tmp 66) (by rfl) (base := wr.heap.size) (by rfl) HO7.out (ys := []) (by rfl) (row_empty _ 0 _) (fun h => by cases h) (p + 1 + 0) rfl (by have := HPB.out; omega) (by first | exact Nat.le_refl _ | (simp; done) | (simp; omega) | (have := hS4.size; simp; omega) | (have := hS7.size; simp; omega)) ?_
                       intro A9 c9 w9 ho9 hg9 hb9 h59
                       have HO9 := Lib.hid ho9
                       have hS9 : Grows wr w9 := Below.trans hS7 hb9
                       clear ho9 hg9 hb9 h59)
                    | (refine step_append_ints (by rfl) (.tmp 60) (.tmp 62) (by rfl) (base := wr.heap.size) (by rfl) (by first | exact HO4.out | exact owned_grow HO4.out (grows_alloc _ _)) (ys := [nn]) (by rfl) (by first | exact Whole.row HL4.out [intV nn] 1 rfl rfl | exact Whole.row (Whole.made w4 _ _) [intV nn] 1 rfl rfl) (fun h => by cases h) (p + 1) (by omega) (by omega) (by first | exact Nat.le_refl _ | (simp; done) | (simp; omega) | (have := hS4.size; simp; omega) | (have := hS7.size; simp; omega)) ?_
                       intro A7 c7 w7 ho7 hg7 hb7 h57
                       have HO7 := Lib.hid ho7
                       have hS7 : Grows wr w7 := Below.trans (by first | assumption | exact Grows.trans (grows_drew wr) (grows_alloc _ _) | exact Grows.trans (Grows.trans (grows_drew wr) (grows_alloc _ _)) (grows_alloc _ _) | exact Grows.trans hS4 (grows_alloc _ _)) hb7
                       clear ho7 hg7 hb7 h57)
                    | (refine step_append_ints (by rfl) (.tmp 56) (.tmp 59) (by rfl) (base := wr.heap.size) (xs := []) (by rfl) (by
                       first
                             | exact World.ownsRow_lit _ #[] 0 (Nat.le_refl _) (Nat.zero_le _) rfl
                             | exact owned_grow (World.ownsRow_lit wr #[] 0 (Nat.le_refl _) (Nat.zero_le _) rfl) (grows_drew _)
                             | exact owned_grow (World.ownsRow_lit wr #[] 0 (Nat.le_refl _) (Nat.zero_le _) rfl) (Grows.trans (grows_alloc _ _) (grows_drew _))
                             | (have h := World.ownsRow_lit (e := 3) (size := 1) (base := wr.heap.size) (wr.alloc (.cells #[.int .i64 nn] 3)) #[] 0 (le_alloc _ _) (Nat.zero_le _) rfl
                                rw [World.size_alloc] at h
                                exact owned_grow h (grows_drew _))) (ys := xs.take p) (by rfl) (HRT.out _ (by first | assumption | exact Grows.trans (grows_drew wr) (grows_alloc _ _) | exact Grows.trans (Grows.trans (grows_drew wr) (grows_alloc _ _)) (grows_alloc _ _) | exact Grows.trans hS4 (grows_alloc _ _))) (fun h => by cases h) p (by omega) (by omega) (by first | exact Nat.le_refl _ | (simp; done) | (simp; omega) | (have := hS4.size; simp; omega) | (have := hS7.size; simp; omega)) ?_
                       intro A4 c4 w4 ho4 hg4 hb4 h54
                       have HO4 := Lib.hid ho4
                       have hS4 : Grows wr w4 := Below.trans (by first | assumption | exact Grows.trans (grows_drew wr) (grows_alloc _ _) | exact Grows.trans (Grows.trans (grows_drew wr) (grows_alloc _ _)) (grows_alloc _ _) | exact Grows.trans hS4 (grows_alloc _ _)) hb4
                       first
                           | (have HL4 : Hid (Whole w4 (wr.heap.size + 1) 3 #[.int .i64 nn]) := by
                                have h := Whole.made (wr.alloc (.cells #[] 3)) 3 #[.int .i64 nn]
                                rw [World.size_alloc] at h
                                exact Lib.hid (Whole.same (w := ((wr.alloc (.cells #[] 3)).alloc (.cells #[.int .i64 nn] 3)).drew) h (hg4.block _ h.lt (by intro e; simp [Value.ownBlock] at e))))
                           | (have HL4 : Hid (Whole w4 wr.heap.size 3 #[.int .i64 nn]) := by
                                have h := (Whole.made wr 3 #[.int .i64 nn]).alloc (.cells #[] 3)
                                exact Lib.hid (Whole.same (w := ((wr.alloc (.cells #[.int .i64 nn] 3)).alloc (.cells #[] 3)).drew) h (hg4.block _ h.lt (by intro e; simp [Value.ownBlock] at e))))
                           | skip
                       clear ho4 hg4 hb4 h54))
                  all_goals
                    go_wp2_with (fail)
                    refine ⟨⟨A9, c9, p + 1 + 0, j + 1, xs.take p ++ nn :: xs.drop p, by omega, by omega, rfl, rfl, Lib.hid ⟨set_put xs nn p HX.out.1 (fun i hi hi2 => HL.out i hi hi2) (fun hpl => absurd hpl (by have := HPM.out; have := HO2.out.1; simp at this; omega)), told_new HX.out.2 (by rw [HNX.out]; rfl)⟩, Lib.hid ?_, Lib.hid (Grows.trans HG2.out hS9)⟩, by simp [intOf]; omega⟩
                    have h := owned_from (base' := w.heap.size) HO9.out HG2.out.size
                    rw [HDR.out]
                    simpa using h
                · skip
                  have j2 : (p : Int) ≤ (lc : Int) := by have := HPM.out; omega
                  have j3 : (m : Int) ≤ (lc : Int) := by have := HPM.out; omega
                  have nlc : ¬ lc = p := hlp
                  have HRT : Hid (∀ v, Grows wr v → Row v v.heap.size (some ad2) p ((xs.take p).map intV)) := Lib.hid fun v hv => by rw [List.map_take]; exact (hv.row (Row.owned HO2.out)).first (by have := HPM.out; omega)
                  have HRD : Hid (∀ v, Grows wr v → Row v v.heap.size (some (ad2.add p)) (m - p) ((xs.drop p).map intV)) := Lib.hid fun v hv => by
                    have h := (hv.row (Row.owned HO2.out)).behind (k := p) (cap := lc) (by have := HPM.out; omega) (by omega)
                    rw [if_neg nlc] at h
                    rw [List.map_drop]
                    exact h
                  go_wp2_with (fail)
                  have hS0 : Grows wr wr.drew := grows_drew wr
                  go_region_held3 (fun w' => Grows wr w') (with_reducible first | assumption | exact Grows.trans (by assumption) (grows_alloc _ _)) (first
                    | (refine step_append_ints (by rfl) (.tmp 63) (.tmp 66) (by rfl) (base := wr.heap.size) (by rfl) HO7.out (by rfl) (HRD.out _ hS7) (fun h => by cases h) (p + 1 + (m - p)) (by omega) (by omega) (by first | exact Nat.le_refl _ | (simp; done) | (simp; omega) | (have := hS4.size; simp; omega) | (have := hS7.size; simp; omega)) ?_
                       intro A9 c9 w9 ho9 hg9 hb9 h59
                       have HO9 := Lib.hid ho9
                       have hS9 : Grows wr w9 := Below.trans hS7 hb9
                       clear ho9 hg9 hb9 h59)
                    | (refine step_append_ints (by rfl) (.tmp 60) (.tmp 62) (by rfl) (base := wr.heap.size) (by rfl) (by first | exact HO4.out | exact owned_grow HO4.out (grows_alloc _ _)) (ys := [nn]) (by rfl) (by first | exact Whole.row HL4.out [intV nn] 1 rfl rfl | exact Whole.row (Whole.made w4 _ _) [intV nn] 1 rfl rfl) (fun h => by cases h) (p + 1) (by omega) (by omega) (by first | exact Nat.le_refl _ | (simp; done) | (simp; omega) | (have := hS4.size; simp; omega) | (have := hS7.size; simp; omega)) ?_
                       intro A7 c7 w7 ho7 hg7 hb7 h57
                       have HO7 := Lib.hid ho7
                       have hS7 : Grows wr w7 := Below.trans (by first | assumption | exact Grows.trans (grows_drew wr) (grows_alloc _ _) | exact Grows.trans (Grows.trans (grows_drew wr) (grows_alloc _ _)) (grows_alloc _ _) | exact Grows.trans hS4 (grows_alloc _ _)) hb7
                       clear ho7 hg7 hb7 h57)
                    | (refine step_append_ints (by rfl) (.tmp 56) (.tmp 59) (by rfl) (base := wr.heap.size) (xs := []) (by rfl) (by
                       first
                             | exact World.ownsRow_lit _ #[] 0 (Nat.le_refl _) (Nat.zero_le _) rfl
                             | exact owned_grow (World.ownsRow_lit wr #[] 0 (Nat.le_refl _) (Nat.zero_le _) rfl) (grows_drew _)
                             | exact owned_grow (World.ownsRow_lit wr #[] 0 (Nat.le_refl _) (Nat.zero_le _) rfl) (Grows.trans (grows_alloc _ _) (grows_drew _))
                             | (have h := World.ownsRow_lit (e := 3) (size := 1) (base := wr.heap.size) (wr.alloc (.cells #[.int .i64 nn] 3)) #[] 0 (le_alloc _ _) (Nat.zero_le _) rfl
                                rw [World.size_alloc] at h
                                exact owned_grow h (grows_drew _))) (ys := xs.take p) (by rfl) (HRT.out _ (by first | assumption | exact Grows.trans (grows_drew wr) (grows_alloc _ _) | exact Grows.trans (Grows.trans (grows_drew wr) (grows_alloc _ _)) (grows_alloc _ _) | exact Grows.trans hS4 (grows_alloc _ _))) (fun h => by cases h) p (by omega) (by omega) (by first | exact Nat.le_refl _ | (simp; done) | (simp; omega) | (have := hS4.size; simp; omega) | (have := hS7.size; simp; omega)) ?_
                       intro A4 c4 w4 ho4 hg4 hb4 h54
                       have HO4 := Lib.hid ho4
                       have hS4 : Grows wr w4 := Below.trans (by first | assumption | exact Grows.trans (grows_drew wr) (grows_alloc _ _) | exact Grows.trans (Grows.trans (grows_drew wr) (grows_alloc _ _)) (grows_alloc _ _) | exact Grows.trans hS4 (grows_alloc _ _)) hb4
                       first
                           | (have HL4 : Hid (Whole w4 (wr.heap.size + 1) 3 #[.int .i64 nn]) := by
                                have h := Whole.made (wr.alloc (.cells #[] 3)) 3 #[.int .i64 nn]
                                rw [World.size_alloc] at h
                                exact Lib.hid (Whole.same (w := ((wr.alloc (.cells #[] 3)).alloc (.cells #[.int .i64 nn] 3)).drew) h (hg4.block _ h.lt (by intro e; simp [Value.ownBlock] at e))))
                           | (have HL4 : Hid (Whole w4 wr.heap.size 3 #[.int .i64 nn]) := by
                                have h := (Whole.made wr 3 #[.int .i64 nn]).alloc (.cells #[] 3)
                                exact Lib.hid (Whole.same (w := ((wr.alloc (.cells #[.int .i64 nn] 3)).alloc (.cells #[] 3)).drew) h (hg4.block _ h.lt (by intro e; simp [Value.ownBlock] at e))))
                           | skip
                       clear ho4 hg4 hb4 h54))
                  all_goals
                    go_wp2_with (fail)
                    refine ⟨⟨A9, c9, p + 1 + (m - p), j + 1, xs.take p ++ nn :: xs.drop p, by omega, by omega, rfl, rfl, Lib.hid ⟨set_put xs nn p HX.out.1 (fun i hi hi2 => HL.out i hi hi2) (fun hpl => absurd hpl (by have := HPM.out; have := HO2.out.1; simp at this; omega)), told_new HX.out.2 (by rw [HNX.out]; rfl)⟩, Lib.hid ?_, Lib.hid (Grows.trans HG2.out hS9)⟩, by simp [intOf]; omega⟩
                    have h := owned_from (base' := w.heap.size) HO9.out HG2.out.size
                    simpa using h
        · rw [if_neg (fun h => hk h.2)] at hnx
          have HNX := Lib.hid hnx
          have hkf : (k != 1) = true := by rw [bne_iff_ne]; exact hk
          clear hseg hnx hk
          go_wp2_with (fail)
          exact ⟨⟨LA, lc, m, j + 1, xs, by omega, by omega, rfl, rfl, Lib.hid (by rw [HNX.out]; simpa using HX.out), HO2, HG2⟩, by simp [intOf]; omega⟩
    · obtain rfl : j = n := by omega
      have hx := HX.out
      rw [List.take_of_length_le (by rw [HS.out.len]; exact Nat.le_refl _)] at hx
      have hl : xs.length = m := by have := HO.out.1; simpa using this
      have hset := set_of _ _ hx.1 hx.2
      have HSET := Lib.hid (And.intro hset hl)
      clear hx hset hl
      go_wp2_with (fail)
      go_ret
      rw [HSET.out.1, HSET.out.2]
      exact ⟨_, _, rfl, HO.out, HG.out⟩
end Go.Proofs.Ytfopiifchcaciaa
