/-
  book's Sum.
-/
import Derived.Test.YtlldcogkcjnejaaBkPut
import Derived.Lib.SlKeysI
namespace Go.Proofs.Ytlldcogkcjnejaa
open Go.RowKit Go.Maps Go.Shelf Go.Sort
set_option linter.unusedVariables false
set_option linter.unusedSimpArgs false
attribute [local irreducible] wpF

theorem together_any {x y z : Int} (hx : 0 ≤ x) (hy : 0 ≤ y) (hz : x + y = z) (hm : z ≤ 9223372036854775807) (w : World) : Calls Try.prog 30 #[.int .i64 x, .int .i64 y] w fun e w' => e = .returned (.int .i64 z) ∧ Grows w w' := by
  obtain ⟨w1, w2⟩ := wrapI (x := 9223372036854775807 - y) (by omega) (by omega)
  obtain ⟨w3, w4⟩ := wrapI (x := x + y) (by omega) (by omega)
  have hc : ¬ 9223372036854775807 - y < x := by omega
  rw [hz] at w3 w4
  clear hx hy hm
  go_enter Try.func30, Try.ntmps30
  go_wp2_with (fail)
  go_ret
  exact ⟨rfl, Grows.refl _⟩
theorem rise_nodup {l : List Us} (h : RiseU l) : l.Nodup := h.imp fun {a b} hab e => by rw [e] at hab; omega
theorem part_perm {l p : List Us} (hl : RiseU l) (hn : (p.map (·.seg)).Nodup) (hm : ∀ x ∈ p, x ∈ l) : ∃ q, (p ++ q).Perm l := by
  have hp : p.Nodup := (List.pairwise_map.1 hn).imp fun h e => h (by rw [e])
  refine ⟨l.filter fun x => !decide (x ∈ p), (List.perm_ext_iff_of_nodup ?_ (rise_nodup hl)).2 fun x => ?_⟩
  · refine List.nodup_append.2 ⟨hp, (rise_nodup hl).filter _, fun a ha b hb e => ?_⟩
    have := (List.mem_filter.1 hb).2
    rw [← e] at this
    simp [ha] at this
  · rw [List.mem_append, List.mem_filter]
    constructor
    · rintro (h | h)
      · exact hm x h
      · exact h.1
    · intro h
      by_cases hx : x ∈ p
      · exact .inl hx
      · exact .inr ⟨h, by simp [hx]⟩
/-- A map that is ranged over. -/
abbrev RangesU (w : World) (b r nn : Nat) (l : List Us) (left : Lit → Bool) (cnt : Nat) : Prop := w.ranges Try.prog 3 (usR (H := Unit)) b r nn (encU l) left cnt
theorem ranges_sameU {w w' : World} {b r nn cnt : Nat} {l : List Us} {left : Lit → Bool} (h : RangesU w b r nn l left cnt) (hb : w'.heap[b]? = w.heap[b]?) (hr : w'.heap[r]? = w.heap[r]?) : RangesU w' b r nn l left cnt := by
  obtain ⟨es, clock, since, seen, c0, h1, h2, h3, h4, h5, h6⟩ := h
  exact ⟨es, clock, since, seen, c0, hb.trans h1, h2, h3, h4, hr.trans h5, h6⟩
/-- Of a map's entry: it is one of the list's. -/
theorem entryU {l : List Us} {x : Int} {kl : Lit} {c : Us} {y : DataW Unit × List MemPlace} (hkey : keyOf Try.prog 3 (encZ x) = some kl) (hv : usR (usV c) = some y) (hat : ∀ zd, (encU l).atKey kl zd = y.1) : kl = .int .i64 x ∧ c ∈ l ∧ c.seg = x ∧ ∀ zd : DataW Unit, (encU l).atKey (.int .i64 x) zd = usD c := by
  obtain ⟨x', ex, rfl, _⟩ := Maps.keyOf_i64 Try.underlying3 hkey
  obtain rfl : x = x' := encZ_inj ex
  have h1 := usR_mk (H := Unit) c
  rw [hv, Option.some.injEq] at h1
  have hat' : ∀ zd : DataW Unit, (encU l).atKey (.int .i64 x) zd = usD c := fun zd => by rw [hat zd, h1]
  obtain ⟨h2, h3⟩ := at_memU hat'
  exact ⟨rfl, h2, h3, hat'⟩
theorem all_there {w : World} {b r nn : Nat} {l pre : List Us} {left : Lit → Bool} {cnt : Nat} (hl : RiseU l) (hr : RangesU w b r nn l left cnt) (hc : CollectedI (encU (H := Unit) l) left (pre.map (·.seg))) (hm : ∀ x ∈ pre, x ∈ l) (h0 : ∀ kl, left kl = false) : pre.Perm l := by
  have hp := hc.perm hr.owns (int_keyed Try.underlying3) Try.underlying3 h0
  rw [keys_encU] at hp
  have hn : pre.Nodup := (List.pairwise_map.1 hc.1).imp fun h e => h (by rw [e])
  refine (List.perm_ext_iff_of_nodup hn (rise_nodup hl)).2 fun x => ⟨hm x, fun hx => ?_⟩
  obtain ⟨y, hy, hk⟩ := List.mem_map.1 (hp.mem_iff.2 (List.mem_map.2 ⟨x, hx, rfl⟩))
  rw [← rise_seg hl (hm y hy) hx hk]
  exact hy
theorem sumA_snoc (l : List Us) (x : Us) : sumA (l ++ [x]) = sumA l + x.all := by unfold sumA; simp
theorem sumL_snoc (l : List Us) (x : Us) : sumL (l ++ [x]) = sumL l + x.live := by unfold sumL; simp
theorem sumA_perm {a b : List Us} (h : a.Perm b) : sumA a = sumA b := sum_perm (h.map _)
theorem sumL_perm {a b : List Us} (h : a.Perm b) : sumL a = sumL b := sum_perm (h.map _)
set_option maxRecDepth 100000 in
set_option maxHeartbeats 4000000 in
theorem sum_use {p b nn : Nat} {l : List Us} {w : World} (h : BkAt w p b nn l) (hnn : nn ≤ 1000000) :
    Calls Try.prog 20 #[.pointer (some ⟨p, 0, none⟩)] w fun e w' => e = .returned (.tuple #[.int .i64 (sumA l), .int .i64 (sumL l)]) ∧ Grows w w' := by
  have hc1 := h.box.cell
  have hown := h.map
  have HH := Lib.hid (And.intro h hnn)
  clear h hnn
  go_enter Try.func20, Try.ntmps20
  go_wp2_with (first
    | (at_range; refine wpList_range_own _ rfl _ 50 rfl 3 34 (int_keyed Try.underlying3) Try.underlying50 _ b nn _ rfl hown ?_; intro w0 hrg0 hg0 hs0)
    | go_in)
  go_frame
  have HN0 := Lib.hid (And.intro (show Grows w w0 from ⟨hg0.os, hg0.tape, hg0.output, hg0.size, fun k hk => hg0.block k hk (by simp)⟩) hs0)
  have HRG0 := Lib.hid hrg0
  clear hg0 hs0 hrg0 hown hc1
  go_loopw [4, 5, 7] (fun xa xl _ wr => ∃ (left : Lit → Bool) (cnt : Nat) (pre : List Us), xa = .int .i64 (sumA pre) ∧ xl = .int .i64 (sumL pre) ∧ Hid (RangesU wr b w.heap.size nn l left cnt) ∧ Hid (CollectedI (encU (H := Unit) l) left (pre.map (·.seg))) ∧ Hid (∀ x ∈ pre, x ∈ l) ∧ Hid (Grows w wr) ∧ Hid (w.heap.size < wr.heap.size))
    (fun _ _ _ wr => wr.rangeLeft b w.heap.size)
  case atStart =>
    exact ⟨_, _, [], rfl, rfl, HRG0, Lib.hid (CollectedI.start (encU l)), Lib.hid (fun x hx => by cases hx), Lib.hid HN0.out.1, Lib.hid (by rw [HN0.out.2]; omega)⟩
  case round =>
    obtain ⟨left, cnt, pre, rfl, rfl, HRG, HC, HM, HG, HSZ⟩ := hrel
    have hrg := HRG.out
    go_wp2_with (first
      | (at_next; refine wpList_next_ranges _ rfl _ rfl 3 (int_keyed Try.underlying3) (usR (H := Unit)) encZ usV (fun key kl hk => by obtain ⟨x, hx, _⟩ := Maps.keyOf_i64 Try.underlying3 hk; exact ⟨x, hx⟩) (fun v y hv => by obtain ⟨c, hc, _⟩ := usR_inv hv; exact ⟨c, hc⟩) b w.heap.size nn _ _ _ rfl hrg ?_ ?_)
      | go_in)
    · intro hc0 hl0
      have HL0 := Lib.hid hl0
      clear hl0
      go_wp2_with (fail)
      refine bodyPost_ret (results_tmp2 rfl _ _ _) rfl ?_
      have hp := all_there HH.out.1.ok.rise HRG.out HC.out HM.out HL0.out
      rw [sumA_perm hp, sumL_perm hp]
      exact ⟨rfl, HG.out⟩
    · intro x c kl yd yp w2 cnt2 hkey hlk hv hat hrg2 hlt2 hg2 hs2 hen
      obtain ⟨rfl, hmem, hseg, hat'⟩ := entryU (y := (yd, yp)) hkey hv hat
      have HC2 := Lib.hid (show CollectedI (encU (H := Unit) l) (fun z => left z && !z.sameKey (.int .i64 x)) ((pre ++ [c]).map (·.seg)) by
        have := HC.out.step hlk hat'
        rw [List.map_append, List.map_cons, List.map_nil, hseg]
        exact this)
      have HM2 := Lib.hid (show ∀ z ∈ pre ++ [c], z ∈ l from fun z hz => by
        rcases List.mem_append.1 hz with h | h
        · exact HM.out z h
        · rw [List.mem_singleton.1 h]; exact hmem)
      obtain ⟨q, hq⟩ := part_perm HH.out.1.ok.rise HC2.out.1 HM2.out
      obtain ⟨q0, hq0⟩ := part_perm HH.out.1.ok.rise HC.out.1 HM.out
      have hsum := HH.out.1.ok.perm hq
      have hsum0 := HH.out.1.ok.perm hq0
      obtain ⟨_, _, e1, e2, _⟩ := HH.out.1.ok.each c hmem
      have hn2 := HH.out.2
      obtain ⟨c0, c1, c2⟩ := c
      obtain ⟨sa, hsa⟩ : ∃ z, sumA (pre ++ [⟨c0, c1, c2⟩]) = z := ⟨_, rfl⟩
      obtain ⟨sl, hsl⟩ : ∃ z, sumL (pre ++ [⟨c0, c1, c2⟩]) = z := ⟨_, rfl⟩
      rw [hsa, hsl] at hsum
      have HSA := Lib.hid (And.intro hsa hsl)
      have HT1 := Lib.hid (fun W => together_any (x := sumA pre) (y := c1) (z := sa) hsum0.1 (by dsimp only at e1 e2; omega) (by rw [← hsa, sumA_snoc]) (by omega) W)
      have HT2 := Lib.hid (fun W => together_any (x := sumL pre) (y := c2) (z := sl) hsum0.2.2.1 e1 (by rw [← hsl, sumL_snoc]) (by omega) W)
      have HRG2 := Lib.hid hrg2
      have HLT2 := Lib.hid hlt2
      have hg2' : Grows w w2 := by
        have h1 : Spares (fun k => k = w.heap.size) w w2 := ((Spares.grows HG.out).grown hg2 (fun k hk => by cases hk; rfl))
        exact h1.below (Nat.le_refl _) fun k hk e => by omega
      have HG2 := Lib.hid (And.intro hg2' hs2)
      obtain ⟨W1, hW1⟩ : ∃ W1, w2.alloc (.cells #[.int .i64 c0, .int .i64 c1, .int .i64 c2] 34) = W1 := ⟨_, rfl⟩
      have HGW := Lib.hid (show Grows w2 W1 from hW1 ▸ grows_alloc _ _)
      have HM1 := Lib.hid (show Whole W1 w2.heap.size 34 #[.int .i64 c0, .int .i64 c1, .int .i64 c2] by rw [← hW1]; exact Whole.made _ _ _)
      clear hsa hsl hmem hseg hat hat' hq hq0 hsum hsum0 e1 e2 hn2 hrg2 hlt2 hg2 hg2' hs2 hkey hlk hv hrg
      dsimp only [usV] at hen
      dsimp only [usV]
      go_wp2_with (first | rw [hW1] | fail)
      clear hW1 hen
      refine wp_region_facts (E := Grows) [valFact (.int .i64 (sumA pre)), valFact (.pointer (some ⟨w2.heap.size, 1, none⟩)), valFact (.int .i64 c1), valFact (.int .i64 sa), valFact (.int .i64 (sumL pre)), valFact (.pointer (some ⟨w2.heap.size, 2, none⟩)), valFact (.int .i64 c2), valFact (.int .i64 sl), valFact (.int .i64 sa), valFact (.int .i64 sl)] (by kernel_rfl) (by kernel_rfl) (fun _ _ _ => Grows.trans) (grows_drew _) ?_
      refine f_val (.int .i64 (sumA pre)) (by rfl) ?_ ?_
      · intro w' hC; clear hC; go_simp
      simp only [Act.put, List.setIfInBounds_toArray, List.set_cons_zero, List.set_cons_succ]
      refine f_val (.pointer (some ⟨w2.heap.size, 1, none⟩)) (by rfl) ?_ ?_
      · intro w' hC; clear hC; go_simp
      simp only [Act.put, List.setIfInBounds_toArray, List.set_cons_zero, List.set_cons_succ]
      refine f_val (.int .i64 c1) (by rfl) ?_ ?_
      · intro w' hC; have q := hC.whole HM1.out; have q0 := q.cell 1; have q1 := q.cell 2; simp only [List.getElem?_toArray, List.getElem?_cons_zero, List.getElem?_cons_succ] at q0 q1; clear hC; go_simp
      simp only [Act.put, List.setIfInBounds_toArray, List.set_cons_zero, List.set_cons_succ]
      refine f_call 30 #[.int .i64 (sumA pre), .int .i64 c1] (.int .i64 sa) (by rfl) (by intro w' hC; clear hC; go_simp) ?_ ?_
      · intro w' hC _; exact HT1.out w'
      simp only [Act.put, List.setIfInBounds_toArray, List.set_cons_zero, List.set_cons_succ]
      refine f_val (.int .i64 (sumL pre)) (by rfl) ?_ ?_
      · intro w' hC; clear hC; go_simp
      simp only [Act.put, List.setIfInBounds_toArray, List.set_cons_zero, List.set_cons_succ]
      refine f_val (.pointer (some ⟨w2.heap.size, 2, none⟩)) (by rfl) ?_ ?_
      · intro w' hC; clear hC; go_simp
      simp only [Act.put, List.setIfInBounds_toArray, List.set_cons_zero, List.set_cons_succ]
      refine f_val (.int .i64 c2) (by rfl) ?_ ?_
      · intro w' hC; have q := hC.whole HM1.out; have q0 := q.cell 1; have q1 := q.cell 2; simp only [List.getElem?_toArray, List.getElem?_cons_zero, List.getElem?_cons_succ] at q0 q1; clear hC; go_simp
      simp only [Act.put, List.setIfInBounds_toArray, List.set_cons_zero, List.set_cons_succ]
      refine f_call 30 #[.int .i64 (sumL pre), .int .i64 c2] (.int .i64 sl) (by rfl) (by intro w' hC; clear hC; go_simp) ?_ ?_
      · intro w' hC _; exact HT2.out w'
      simp only [Act.put, List.setIfInBounds_toArray, List.set_cons_zero, List.set_cons_succ]
      refine f_val (.int .i64 sa) (by rfl) ?_ ?_
      · intro w' hC; clear hC; go_simp
      simp only [Act.put, List.setIfInBounds_toArray, List.set_cons_zero, List.set_cons_succ]
      refine f_val (.int .i64 sl) (by rfl) ?_ ?_
      · intro w' hC; clear hC; go_simp
      simp only [Act.put, List.setIfInBounds_toArray, List.set_cons_zero, List.set_cons_succ]
      refine wpF_end ?_
      intro w5 hC hks
      have HCw5 := Lib.hid hC
      clear hC hks
      go_wp2_with (fail)
      have hg5 := HCw5.out
      have g2 : Grows w2 w5 := Grows.trans HGW.out hg5
      have hbl : b < w2.heap.size := Nat.lt_of_lt_of_le HH.out.1.ltb HG2.out.1.size
      have hrl : w.heap.size < w2.heap.size := by rw [HG2.out.2]; exact HSZ.out
      have hrg3 : RangesU w5 b w.heap.size nn l _ cnt2 := ranges_sameU HRG2.out (g2.block b hbl) (g2.block _ hrl)
      have hmeas : w5.rangeLeft b w.heap.size < wr.rangeLeft b w.heap.size := by rw [hrg3.left_eq, HRG.out.left_eq]; exact HLT2.out
      have hsz5 : w.heap.size < w5.heap.size := Nat.lt_of_lt_of_le hrl g2.size
      go_roundw
      case rel => exact ⟨_, cnt2, pre ++ [⟨c0, c1, c2⟩], by rw [HSA.out.1], by rw [HSA.out.2], Lib.hid hrg3, HC2, HM2, Lib.hid (Grows.trans HG2.out.1 g2), Lib.hid hsz5⟩
      case measure => exact hmeas
end Go.Proofs.Ytlldcogkcjnejaa
