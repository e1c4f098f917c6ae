/-
  slices.Delete of one place of a cell.
-/
import Derived.Test.YtadgbobemmfjoaaKsFit
namespace Go.Proofs.Ytadgbobemmfjoaa
open Go.RowKit
set_option linter.unusedVariables false
set_option linter.unusedSimpArgs false
attribute [local irreducible] wpF

theorem places_drop {w : World} {ad : Addr} {n c : Nat} {l : List Pl} (h : Pls w (some ad) n c l) (i : Nat) (hi : i ≤ n) : ∀ (t : Nat) (u : Value), ((l.drop i).flatMap plE)[t]? = some u → w.cell? ((ad.add (i * 5)).add t) = some u := by
  intro t u hu
  have hlen := h.len
  have hsplit : l.flatMap plE = (l.take i).flatMap plE ++ (l.drop i).flatMap plE := by rw [← List.flatMap_append, List.take_append_drop]
  have h1 : (l.flatMap plE)[i * 5 + t]? = some u := by
    rw [hsplit, List.getElem?_append_right (by rw [flat_len5, List.length_take]; omega), flat_len5, List.length_take]
    have : i * 5 + t - min i l.length * 5 = t := by omega
    rw [this]
    exact hu
  obtain ⟨ad', e, _, h2⟩ := h.row.spot _ _ h1
  injection e with e
  subst e
  rw [add_twice]
  exact h2
theorem cut_places {w : World} {A : Option Addr} {n c : Nat} {l : List Pl} (h : Pls w A n c l) {i : Nat} (hi : i ≤ n) (hn : n ≤ 1000000) :
    (∀ w' : World, (Instr.sliceAt 54 (.slice A n c) none (some (.int .i64 (i : Int))) none).run Try.prog w' = .ok (.slice A i c) w') ∧
      ∃ (A2 : Option Addr) (m2 c3 : Nat), (∀ w' : World, (Instr.sliceAt 54 (.slice A n c) (some (.int .i64 (i : Int))) none none).run Try.prog w' = .ok (.slice A2 m2 c3) w') ∧ m2 = n - i ∧ (A ≠ none → A2 ≠ none) ∧
        (0 < m2 → ∃ ad, A2 = some ad ∧ ∀ w'', Pls w'' A n c l → ∀ (t : Nat) (u : Value), ((l.drop i).flatMap plE)[t]? = some u → w''.cell? (ad.add t) = some u) := by
  have hcap := h.cap
  have hlen := h.len
  rcases A with _ | ad
  · have hc := h.bare rfl
    subst hc
    obtain rfl : n = 0 := by omega
    obtain rfl : i = 0 := by omega
    exact ⟨fun w' => by go_simp, none, 0, 0, fun w' => by go_simp, rfl, fun h => h, fun h => absurd h (by omega)⟩
  · have k0 : (0 : Int) ≤ (i : Int) := by omega
    have k1 : (i : Int) ≤ (n : Int) := by omega
    have k2 : (n : Int) ≤ (c : Int) := by omega
    have k3 : (i : Int) ≤ (c : Int) := by omega
    have hs0 : ∀ w', (Instr.sliceAt 54 (.slice (some ad) n c) (some (.int .i64 (i : Int))) none none).run Try.prog w' = .ok (.slice (if c = i then some ad else some (ad.add (i * 5))) (n - i) (c - i)) w' := fun w' => by go_simp
    refine ⟨fun w' => by go_simp, if c = i then some ad else some (ad.add (i * 5)), n - i, c - i, hs0, rfl, fun _ => by split <;> simp, fun hp => ?_⟩
    rw [if_neg (by omega)]
    exact ⟨_, rfl, fun w'' hu => places_drop hu i (by omega)⟩
theorem zeroPl (w : World) : (zeroValue 32).run Try.prog w = .ok (.agg #[.int .i64 0, .int .i64 0, .string ⟨#[]⟩, .int .i64 0, .int .i64 0]) w := by kernel_rfl
theorem clear_one {w : World} {g o c : Nat} {e ty : TypeId} {cur : Array Value} (hg : w.heap[g]? = some (.cells cur e (0, 0))) (hfit : o + 5 ≤ cur.size) :
    (Builtin.clear_ #[54] ty #[.slice (some ⟨g, o, none⟩) 1 c]).run Try.prog w = .ok (.tuple #[]) (w.setRow g (cur.toList.take o ++ plE Pl.zero ++ cur.toList.drop (o + 5)).toArray) := by
  have hst := run_storeCells_at Try.prog g o e (plE Pl.zero) 0 cur w hg (by show o + 5 ≤ cur.size; exact hfit) (plE_one _)
  simp only [Nat.add_zero] at hst
  have hz : (Builtin.zeroCells (Value.agg #[.int .i64 0, .int .i64 0, .string ⟨#[]⟩, .int .i64 0, .int .i64 0]).cells 1).toList = plE Pl.zero := by
    kernel_rfl
  simp [Builtin.clear_, run_underlying Try.underlying54, zeroPl, hz, hst]
  rfl

section
variable {P : Program} {ops : Array Oper} {rest : List Oper} {o : Oper} {a : Act} {w w' : World} {Q : Exit → Act → World → Prop} {v : Value}
theorem list_exec (hg : o.guard = none) (h : (execOp a.eval o).run P w = .ok (.value v) w') (h2 : wpList P ops Q rest (a.put o.dst v) w') : wpList P ops Q (o :: rest) a w := by
  refine wpList_plain hg fun K hK' => ?_
  unfold Oper.wp
  rw [h]
  exact hK' _ _ h2
theorem exec_clear {s : Operand} {t : TypeId} {v1 : Value} (ho : o.op = .call { callee := .builtin .clear, args := #[s], argTypes := #[t] }) (hs : a.eval s = v1)
    (hrun : (Builtin.clear_ #[t] o.type #[v1]).run P w = .ok v w') : (execOp a.eval o).run P w = .ok (.value v) w' := by
  unfold execOp
  simp only [ho, resolve, invoke, builtin, Sem.run_bind, Sem.run_pure, Result.andThen_ok, List.map_toArray, List.map_cons, List.map_nil, hs, hrun]
end
set_option maxHeartbeats 1000000 in
set_option maxRecDepth 100000 in
theorem delete_any {A : Option Addr} {n c : Nat} {l : List Pl} (w : World) (h : w.ownsRow 0 32 5 (.slice A n c) n (l.flatMap plE)) (hln : l.length = n) {i : Nat} (hi : i < n) (hn : n ≤ 1000000) :
    Calls Try.prog 41 #[.slice A n c, .int .i64 (i : Nat), .int .i64 ((i + 1 : Nat) : Int)] w fun e w' => e = .returned (.slice A (n - 1) c) ∧
      w'.ownsRow 0 32 5 (.slice A (n - 1) c) (n - 1) ((l.eraseIdx i).flatMap plE) ∧ Spares (fun k => (Value.slice A n c).ownBlock = some k) w w' := by
  have hP := Rs.owned plL hln h
  have hcap := hP.cap
  obtain ⟨g, rfl⟩ : ∃ g, A = some ⟨g, 0, none⟩ := by
    rcases h.2 with ⟨e, e2⟩ | ⟨g, cap, cur, e, _⟩
    · omega
    · injection e with e1 e2 e3; exact ⟨g, e1⟩
  obtain ⟨i0, hi0, hz0, hz1, hz2⟩ := info_of infoPl
  obtain ⟨j, hj⟩ : ∃ j, i + 1 = j := ⟨_, rfl⟩
  obtain ⟨n1, hn1⟩ : ∃ n1, n - 1 = n1 := ⟨_, rfl⟩
  rw [hj, hn1]
  obtain ⟨hs1, _⟩ := cut_places hP (i := i) (by omega) hn
  obtain ⟨_, A2, m2, c2, hs2, hm2, hA2, hcl⟩ := cut_places hP (i := j) (by omega) hn
  obtain ⟨ad2, rfl⟩ : ∃ ad2, A2 = some ad2 := Option.ne_none_iff_exists'.1 (hA2 (by simp))
  have hown1 : w.ownsRow 0 32 5 (.slice (some ⟨g, 0, none⟩) i c) i ((l.take i).flatMap plE) := by
    rcases h.2 with ⟨e, e2⟩ | ⟨g', cap, cur, e, hb, hg, hnc, hcm, hcs, ht⟩
    · omega
    · injection e with e1 e2 e3
      injection e1 with e1
      injection e1 with e1
      subst e1 e3
      refine ⟨by rw [flat_len5, List.length_take]; omega, .inr ⟨g, c, cur, rfl, hb, hg, by omega, hcm, hcs, ?_⟩⟩
      have h1 : (cur.toList.take (n * 5)).take (i * 5) = (l.flatMap plE).take (i * 5) := by rw [ht]
      rw [List.take_take, show min (i * 5) (n * 5) = i * 5 by omega] at h1
      rw [h1]
      have hsplit : l.flatMap plE = (l.take i).flatMap plE ++ (l.drop i).flatMap plE := by rw [← List.flatMap_append, List.take_append_drop]
      rw [hsplit, List.take_left' (by rw [flat_len5, List.length_take]; omega)]
  have hnews : ((l.drop j).flatMap plE).length = m2 * 5 := by rw [flat_len5, List.length_drop]; omega
  have hcells : ∀ w', Pls w' (some ⟨g, 0, none⟩) n c l → ∀ (t : Nat) (u : Value), ((l.drop j).flatMap plE)[t]? = some u → w'.cell? (ad2.add t) = some u := fun w' hw' => by
    rcases Nat.eq_zero_or_pos m2 with h0 | h0
    · intro t u hu
      exfalso
      have := (List.getElem?_eq_some_iff.1 hu).1
      omega
    · obtain ⟨ad, e, hq⟩ := hcl h0
      injection e with e
      subst e
      exact hq w' hw'
  have HS1 := Lib.hid hs1
  have HS2 := Lib.hid hs2
  have HX := Lib.hid (And.intro h (And.intro hP (And.intro hown1 (And.intro hcells (And.intro hnews (And.intro hm2 hln))))))
  have HI := Lib.hid (And.intro hi0 (And.intro hz1 hz2))
  have k0 : (0 : Int) ≤ (i : Int) := by omega
  have k1 : (i : Int) ≤ (j : Int) := by omega
  have k2 : (j : Int) ≤ (n : Int) := by omega
  have k3 : (n : Int) ≤ (c : Int) := by omega
  have k4 : (0 : Int) ≤ (j : Int) := by omega
  have k5 : (j : Int) ≤ (c : Int) := by omega
  have k6 : (i : Int) ≤ (c : Int) := by omega
  have k7 : (0 : Int) ≤ (n : Int) := by omega
  have k8 : ¬ (i : Int) = (j : Int) := by omega
  have k9 : ¬ i = j := by omega
  have kb : ((i : Int) == (j : Int)) = false := by simp; omega
  have HJ := Lib.hid (And.intro hj (And.intro hn1 (And.intro hi hn)))
  clear h hP hs1 hs2 hown1 hcells hnews hm2 hcl hA2 hln hj hn1 hi0 hz0 hz1 hz2 hcap
  go_enter Try.func41, Try.ntmps41
  go_wp2_with (fail)
  refine wp_region_facts_tail (E := Grows) 6 [valFact (.slice (some ⟨g, 0, none⟩) n c), valFact (.int .i64 (i : Int)), valFact (.slice (some ⟨g, 0, none⟩) i c), valFact (.slice (some ⟨g, 0, none⟩) n c), valFact (.int .i64 (j : Int)), valFact (.slice (some ad2) m2 c2)] mixed (by kernel_rfl) (fun _ _ _ => Grows.trans) (grows_drew _) ?_
  simp only [List.take_succ_cons, List.take_zero, List.drop_succ_cons, List.drop_zero]
  refine f_val (.slice (some ⟨g, 0, none⟩) n c) (by rfl) ?_ ?_
  · intro w' hC; clear hC; go_simp
  simp only [Act.put, List.setIfInBounds_toArray, List.set_cons_zero, List.set_cons_succ]
  refine f_val (.int .i64 (i : Int)) (by rfl) ?_ ?_
  · intro w' hC; clear hC; go_simp
  simp only [Act.put, List.setIfInBounds_toArray, List.set_cons_zero, List.set_cons_succ]
  refine f_val (.slice (some ⟨g, 0, none⟩) i c) (by rfl) ?_ ?_
  · intro w' hC; have z := HS1.out w'; clear hC; go_simp
  simp only [Act.put, List.setIfInBounds_toArray, List.set_cons_zero, List.set_cons_succ]
  refine f_val (.slice (some ⟨g, 0, none⟩) n c) (by rfl) ?_ ?_
  · intro w' hC; clear hC; go_simp
  simp only [Act.put, List.setIfInBounds_toArray, List.set_cons_zero, List.set_cons_succ]
  refine f_val (.int .i64 (j : Int)) (by rfl) ?_ ?_
  · intro w' hC; clear hC; go_simp
  simp only [Act.put, List.setIfInBounds_toArray, List.set_cons_zero, List.set_cons_succ]
  refine f_val (.slice (some ad2) m2 c2) (by rfl) ?_ ?_
  · intro w' hC; have z := HS2.out w'; clear hC; go_simp
  simp only [Act.put, List.setIfInBounds_toArray, List.set_cons_zero, List.set_cons_succ]
  refine wpF_end ?_
  intro w3 hC hks
  have HCw3 := Lib.hid hC
  clear hC hks
  obtain ⟨w4, hrun, hown4, hgb⟩ := run_append_fits (P := Try.prog) w3 0 54 54 32 _ 5 Try.underlying54 HI.out.1 HI.out.2.1 g i c _ (owned_grow HX.out.2.2.1 HCw3.out) ad2 m2 c2 _ HX.out.2.2.2.2.1 (HX.out.2.2.2.1 w3 (HX.out.2.1.grow HCw3.out)) (fun u hu => by obtain ⟨x, _, hx⟩ := List.mem_flatMap.1 hu; exact plE_one x u hx) (by have := HJ.out; have := HX.out.2.2.2.2.2.1; omega)
  have e1 : i + m2 = n1 := by have := HJ.out; have := HX.out.2.2.2.2.2.1; omega
  rw [e1] at hrun hown4
  refine list_exec rfl (exec_appK rfl rfl rfl hrun) ?_
  simp only [Act.put, List.setIfInBounds_toArray, List.set_cons_zero, List.set_cons_succ]
  have hE : (l.take i).flatMap plE ++ (l.drop j).flatMap plE = (l.eraseIdx i).flatMap plE := by
    rw [← List.flatMap_append, ← HJ.out.1, List.eraseIdx_eq_take_drop_succ]
  rw [hE] at hown4
  have H4 := Lib.hid (And.intro hown4 hgb)
  have HE := Lib.hid hE
  obtain ⟨cur, hg4, hcs4, htk⟩ : ∃ cur, w4.heap[g]? = some (.cells cur 32 (0, 0)) ∧ cur.size = c * 5 ∧ cur.toList.take (n1 * 5) = (l.eraseIdx i).flatMap plE := by
    rcases hown4.2 with ⟨e, e2⟩ | ⟨g', cap, cur, e, hb, hg, hnc, hcm, hcs, ht⟩
    · cases e
    · injection e with e1 e2 e3
      injection e1 with e1
      injection e1 with e1
      subst e1 e3
      exact ⟨cur, hg, hcs, ht⟩
  have HCUR := Lib.hid (And.intro hg4 (And.intro hcs4 htk))
  have j0 : (0 : Int) ≤ (n1 : Int) := by omega
  have j1 : (n1 : Int) ≤ (n : Int) := by have := HJ.out; omega
  have j2 : ¬ c = n1 := by have := HJ.out; omega
  have j3 : (n1 : Int) ≤ (c : Int) := by omega
  have j4 : n - n1 = 1 := by have := HJ.out; omega
  have hclr := clear_one (ty := 0) (c := c - n1) hg4 (o := n1 * 5) (by rw [hcs4]; have := HJ.out; omega)
  clear hown4 hgb hE e1 hrun hg4 hcs4 htk
  go_wp2_with (fail)
  go_ret
  obtain ⟨hg4, hcs4, htk⟩ := HCUR.out
  obtain ⟨hj, hn1, hi, hn⟩ := HJ.out
  have hle : (cur.toList.take (n1 * 5)).length = n1 * 5 := by rw [List.length_take, Array.length_toList, hcs4]; omega
  refine ⟨rfl, ⟨H4.out.1.1, .inr ⟨g, c, _, rfl, Nat.zero_le _, setRow_heap w4 g cur _ _ _ hg4, by omega, ?_, ?_, ?_⟩⟩, ?_⟩
  · rcases H4.out.1.2 with ⟨e, e2⟩ | ⟨g', cap, cur', e, hb, hg, hnc, hcm, hcs, ht⟩
    · cases e
    · injection e with e1 e2 e3
      subst e3
      exact hcm
  · simp only [List.size_toArray, List.length_append, List.length_drop, Array.length_toList, hle, hcs4]
    rw [show (plE Pl.zero).length = 5 from rfl]
    omega
  · show List.take (n1 * 5) (_ ++ _) = _
    rw [List.take_left' hle, htk]
  · have hs4 : Spares (fun k => (Value.slice (some (⟨g, 0, none⟩ : Addr)) n c).ownBlock = some k) w w4 := (Spares.grows HCw3.out).trans ⟨H4.out.2.os, H4.out.2.tape, H4.out.2.output, H4.out.2.size, fun k hk hne => H4.out.2.block k hk fun e => hne (by injection e with e; subst e; rfl)⟩
    exact ⟨hs4.os, hs4.tape, hs4.output, by simpa using hs4.size, fun k hk hne => (setRow_other w4 g k _ (fun e => hne (by subst e; rfl))).trans (hs4.same k hk hne)⟩
end Go.Proofs.Ytadgbobemmfjoaa
