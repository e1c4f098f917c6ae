/-
  Statement NameAll: the segments of names are each number whose name is there, once, in order; other names do not matter. Every list of numbers and every list of texts, no condition.
-/
import Derived.Test.YtihmmndhpjnjnaaNmFacts
import Derived.Test.YtihmmndhpjnjnaaNmZero
import Derived.ProofKit
import Derived.ChangeOld
namespace Go.Proofs.Ytihmmndhpjnjnaa
open Go.ChangeShapes Go.WideShapes Go.ChangeAt Go.RowKit
set_option linter.unusedSimpArgs false
set_option linter.unusedVariables false

/-- An array of 65536 bools: which places are true. -/
structure Has (cs : Array Value) (P : Nat → Prop) [DecidablePred P] : Prop where
  size : cs.size = 65536
  get : ∀ i, i < 65536 → cs[i]? = some (.bool (decide (P i)))
theorem Has.none : Has Try.zeroCells46 (fun i => i ∈ ([] : List Nat)) := ⟨zero_size, fun i hi => by rw [zero_get i hi]; simp⟩
theorem Has.put {cs : Array Value} {l : List Nat} (h : Has cs (fun i => i ∈ l)) (x : Nat) : Has (cs.setIfInBounds x (.bool true)) (fun i => i ∈ l ++ [x]) := by
  refine ⟨by simp [h.size], fun i hi => ?_⟩
  rw [Array.getElem?_setIfInBounds]
  by_cases e : x = i
  · subst e
    rw [if_pos rfl, if_pos (by rw [h.size]; exact hi)]
    simp
  · rw [if_neg e, h.get i hi]
    congr 2
    apply decide_eq_decide.2
    simp [show i ≠ x from fun e' => e e'.symm]

def ints (xs : List Nat) : List Int := xs.map Int.ofNat
theorem set_nodup (xs : List Int) : (setP xs).Nodup := by
  have := (set_rise xs).1
  exact List.Pairwise.imp (fun h e => by rw [e] at h; exact absurd h (by omega)) this
theorem set_more (xs : List Int) (x : Int) : (setP (xs ++ [x])).length = (setP xs).length + if x ∈ xs then 0 else 1 := by
  by_cases h : x ∈ xs
  · rw [if_pos h, set_like (xs ++ [x]) xs (fun y => by
      rw [List.mem_append, List.mem_singleton]
      constructor
      · rintro (h' | rfl)
        · exact h'
        · exact h
      · exact .inl)]
    rfl
  · rw [if_neg h]
    have hp : (setP (xs ++ [x])).Perm (x :: setP xs) := by
      rw [List.perm_ext_iff_of_nodup (set_nodup _) (List.nodup_cons.2 ⟨fun hm => h (((set_rise xs).2 x).1 hm), set_nodup xs⟩)]
      intro y
      rw [(set_rise _).2, List.mem_append, List.mem_singleton, List.mem_cons, (set_rise xs).2]
      exact Or.comm
    rw [hp.length_eq, List.length_cons]
theorem hint_seg (x : Nat) (h : x < 65536) : segP (ofP 2 (x : Int)) = Option.none := by
  have hp : parseP (ofP 2 (x : Int)) = some (2, (x : Int)) := parse_of 2 x (by
    unfold ofP
    rw [if_neg (by omega), if_neg (by decide), if_pos rfl]
    simp)
  unfold segP
  rw [hp]
  rfl
theorem long_seg (s : List UInt8) (h : s.length ≠ 9) : segP s = Option.none := by
  cases hs : segP s with
  | none => rfl
  | some k =>
    rw [seg_is] at hs
    have h1 := of_parse s 1 k hs
    exfalso
    apply h
    obtain ⟨_, _, q3, q4, _, _⟩ := parse_kind s 1 k hs
    rw [← h1]
    unfold ofP
    rw [if_neg (by omega), if_pos rfl, List.length_cons, digs_length]
theorem hint_length (x : Nat) : (ofP 2 (x : Int)).length ≤ 9223372036854775807 := by
  unfold ofP
  repeat' split
  all_goals simp [digs_length]
theorem nums_two (x : Nat) (h : x < 65536) : numsP [nm x, ofP 2 (x : Int)] = [(x : Int)] := by
  unfold numsP
  simp [nm_seg x h, hint_seg x h]
theorem nums_one (s : List UInt8) (h : s.length ≠ 9) : numsP [s] = [] := by
  unfold numsP
  simp [long_seg s h]
theorem ints_take (xs : List Nat) (j x : Nat) (h : xs[j]? = some x) : ints (xs.take (j + 1)) = ints (xs.take j) ++ [(x : Int)] := by
  unfold ints
  rw [List.take_add_one, h, List.map_append]
  rfl
theorem take_snoc (xs : List Nat) (j x : Nat) (h : xs[j]? = some x) : xs.take (j + 1) = xs.take j ++ [x] := by
  rw [List.take_add_one, h]
  rfl
theorem mem_ints (l : List Nat) (x : Nat) : ((x : Int) ∈ ints l) = (x ∈ l) := by
  apply propext
  unfold ints
  rw [List.mem_map]
  constructor
  · rintro ⟨y, hy, e⟩
    have : y = x := Int.ofNat.inj e
    exact this ▸ hy
  · intro h
    exact ⟨x, h, rfl⟩
theorem grown_set (w : World) (g i : Nat) (u : Value) : w.grownBy (w.setCell ⟨g, i, Option.none⟩ u) (some g) :=
  ⟨rfl, rfl, rfl, by simp, fun k _ hne => heap_setCell_other w _ k u (fun e => hne (by rw [e]))⟩
theorem own_above {w : World} {base : Nat} {e : TypeId} {size : Nat} {v : Value} {n : Nat} {xs : List Value} (h : w.ownsRow base e size v n xs) {g : Nat} (hg : g < base) : v.ownBlock = Option.none ∨ v.ownBlock ≠ some g := by
  cases hv : v.ownBlock with
  | none => exact .inl rfl
  | some k => exact .inr (fun e => by injection e with e; have := (h.lt k hv).1; omega)
attribute [local irreducible] Go.wpQuiet

set_option maxRecDepth 100000 in
set_option maxHeartbeats 8000000 in
theorem nameAll_law (w : World) (A : Option Addr) (n c : Nat) (xs : List Nat) (hx : Nums w A n c xs) (B : Option Addr) (m d : Nat) (ys : List (List UInt8)) (hy : Strs w B m d ys) :
    Calls Try.prog 7 #[.slice A n c, .slice B m d] w fun e w' => e = .returned (.bool true) ∧ Below w.heap.size w w' := by
  have HX := Lib.hid hx
  have HY := Lib.hid hy
  clear hx hy
  go_enter Try.func7, Try.ntmps7
  go_wp2_with (fail)
  refine (head_any w).mono ?_
  rintro e w0 ⟨rfl, hb0⟩
  have HG0 := Lib.hid hb0
  clear hb0
  by_cases hbig : (200 : Int) < (n : Int)
  · go_wp2_with (fail)
    go_ret
    exact ⟨rfl, HG0.out⟩
  by_cases hbig2 : (200 : Int) < (m : Int)
  · go_wp2_with (fail)
    go_ret
    exact ⟨rfl, HG0.out⟩
  go_upto_region 5 with (fail)
  go_wp2_with (fail)
  go_loopw [6, 8, 9] (fun va vq i wr => ∃ (LA : Option Addr) (lc j k : Nat) (bs : List (List UInt8)) (cs : Array Value), j ≤ n ∧ k ≤ j ∧ i = .int .i64 (j : Int) ∧ va = .slice LA (2 * j) lc ∧ vq = .int .i64 (k : Int) ∧
    Hid (wr.ownsRow (w0.heap.size + 1) 9 1 (.slice LA (2 * j) lc) (2 * j) (bs.map strV)) ∧ Hid (numsP bs = ints (xs.take j)) ∧ Hid (∀ s ∈ bs, s.length ≤ 9223372036854775807) ∧ Hid (k = (setP (ints (xs.take j))).length) ∧
    Hid (Whole wr w0.heap.size 46 cs) ∧ Hid (Has cs (fun i => i ∈ xs.take j)) ∧ Hid (Grows w0 wr)) (fun _ _ i _ => n - (intOf i).toNat)
  case atStart => exact ⟨none, 0, 0, 0, [], _, by omega, by omega, rfl, rfl, rfl, Lib.hid (World.ownsRow_nil _ _ _ _), Lib.hid rfl, Lib.hid (fun s hs => by cases hs), Lib.hid (by rw [show ints (xs.take 0) = [] from rfl, set_nil]; rfl), Lib.hid (Whole.made _ _ _), Lib.hid Has.none, Lib.hid (grows_alloc _ _)⟩
  case round =>
    obtain ⟨LA, lc, j, k, bs, cs, hj, hk, rfl, rfl, rfl, HA, HN, HL, HK, HW, HH, HG⟩ := hrel
    by_cases hlt : j < n
    · have hlt' : (j : Int) < (n : Int) := by omega
      obtain ⟨ad, x, rfl, hcellw, hget, hxs, hblk⟩ := HX.out.get hlt
      have hcell : wr.cell? (ad.add j) = some (.int .u16 (x : Int)) := by
        rw [(Grows.trans HG0.out HG.out).cell (by rw [add_block]; exact hblk)]
        exact hcellw
      have hhas : wr.cell? ⟨w0.heap.size, x, Option.none⟩ = some (.bool (decide (x ∈ xs.take j))) := by rw [HW.out.cell x]; exact HH.out.get x hxs
      have hfree := HW.out.free x
      have hput := HW.out.put x (.bool true)
      obtain ⟨b, hb⟩ : ∃ b, decide (x ∈ xs.take j) = b := ⟨_, rfl⟩
      rw [hb] at hhas
      have HBB := Lib.hid hb
      have e1 := fits1 x hxs
      have e2 := fits2 x hxs
      have hx6 : (x : Int) < 65536 := by omega
      have HCW := Lib.hid hcellw
      have HBLKX := Lib.hid hblk
      have HGET := Lib.hid hget
      have HXS := Lib.hid hxs
      have HPUT := Lib.hid hput
      clear hb hcellw hblk hget hput
      cases b with
      | false =>
        go_wp2_with (fail)
        obtain ⟨w1, hw1⟩ : ∃ w1, wr.setCell ⟨w0.heap.size, x, Option.none⟩ (.bool true) = w1 := ⟨_, rfl⟩
        have hA1 := HA.out.kept (grown_set wr w0.heap.size x (.bool true)) (own_above HA.out (Nat.lt_succ_self _))
        have hG1 : Grows w0 (wr.setCell ⟨w0.heap.size, x, Option.none⟩ (.bool true)) := Below.setCell (p := ⟨w0.heap.size, x, Option.none⟩) HG.out (Nat.le_refl _) _
        have hP1 := HPUT.out
        rw [hw1] at hA1 hG1 hP1 ⊢
        have HA1 := Lib.hid hA1
        have HG1 := Lib.hid hG1
        have HP1 := Lib.hid hP1
        have HCY := Lib.hid (show ∀ w', Grows w1 w' → w'.cell? (ad.add j) = some (.int .u16 (x : Int)) from fun w' h => by
          rw [(Grows.trans HG0.out (Grows.trans HG1.out h)).cell (by rw [add_block]; exact HBLKX.out)]
          exact HCW.out)
        clear hA1 hG1 hP1 hw1 hcell hhas hfree
        refine wp_region_facts_tail (E := Grows) 14 [valFact (.slice LA (2 * j) lc), valFact (.slice (some ad) n c), valFact (.int .i64 (j : Int)), valFact (.pointer (some (ad.add j))), valFact (.int .u16 (x : Int)), valFact (.int .i64 (x : Int)), valFact (.string ⟨(nm x).toArray⟩), valFact (.slice (some ad) n c), valFact (.int .i64 (j : Int)), valFact (.pointer (some (ad.add j))), valFact (.int .u16 (x : Int)), valFact (.int .i64 (x : Int)), valFact (.string ⟨(ofP 2 (x : Int)).toArray⟩), blkFact (9) (#[.string ⟨(nm x).toArray⟩, .string ⟨(ofP 2 (x : Int)).toArray⟩]) 2] mixed (by kernel_rfl) (fun _ _ _ => Grows.trans) (grows_drew _) ?_
        simp only [List.take_succ_cons, List.take_zero, List.drop_succ_cons, List.drop_zero]
        refine f_val (.slice LA (2 * j) lc) (by rfl) ?_ ?_
        · intro w' hC; clear hC; go_simp
        simp only [Act.put, List.setIfInBounds_toArray, List.set_cons_zero, List.set_cons_succ]
        refine f_val (.slice (some ad) n c) (by rfl) ?_ ?_
        · intro w' hC; clear hC; go_simp
        simp only [Act.put, List.setIfInBounds_toArray, List.set_cons_zero, List.set_cons_succ]
        refine f_val (.int .i64 (j : Int)) (by rfl) ?_ ?_
        · intro w' hC; clear hC; go_simp
        simp only [Act.put, List.setIfInBounds_toArray, List.set_cons_zero, List.set_cons_succ]
        refine f_val (.pointer (some (ad.add j))) (by rfl) ?_ ?_
        · intro w' hC; clear hC; go_simp
        simp only [Act.put, List.setIfInBounds_toArray, List.set_cons_zero, List.set_cons_succ]
        refine f_val (.int .u16 (x : Int)) (by rfl) ?_ ?_
        · intro w' hC; have cy := HCY.out w' hC; clear hC; go_simp
        simp only [Act.put, List.setIfInBounds_toArray, List.set_cons_zero, List.set_cons_succ]
        refine f_val (.int .i64 (x : Int)) (by rfl) ?_ ?_
        · intro w' hC; clear hC; go_simp
        simp only [Act.put, List.setIfInBounds_toArray, List.set_cons_zero, List.set_cons_succ]
        refine f_call 23 #[.int .i64 1, .int .i64 (x : Int)] (.string ⟨(nm x).toArray⟩) (by rfl) (by intro w' hC; clear hC; go_simp) ?_ ?_
        · intro w' hC hk; exact of_any 1 (x : Int) w'
        simp only [Act.put, List.setIfInBounds_toArray, List.set_cons_zero, List.set_cons_succ]
        refine f_val (.slice (some ad) n c) (by rfl) ?_ ?_
        · intro w' hC; clear hC; go_simp
        simp only [Act.put, List.setIfInBounds_toArray, List.set_cons_zero, List.set_cons_succ]
        refine f_val (.int .i64 (j : Int)) (by rfl) ?_ ?_
        · intro w' hC; clear hC; go_simp
        simp only [Act.put, List.setIfInBounds_toArray, List.set_cons_zero, List.set_cons_succ]
        refine f_val (.pointer (some (ad.add j))) (by rfl) ?_ ?_
        · intro w' hC; clear hC; go_simp
        simp only [Act.put, List.setIfInBounds_toArray, List.set_cons_zero, List.set_cons_succ]
        refine f_val (.int .u16 (x : Int)) (by rfl) ?_ ?_
        · intro w' hC; have cy := HCY.out w' hC; clear hC; go_simp
        simp only [Act.put, List.setIfInBounds_toArray, List.set_cons_zero, List.set_cons_succ]
        refine f_val (.int .i64 (x : Int)) (by rfl) ?_ ?_
        · intro w' hC; clear hC; go_simp
        simp only [Act.put, List.setIfInBounds_toArray, List.set_cons_zero, List.set_cons_succ]
        refine f_call 23 #[.int .i64 2, .int .i64 (x : Int)] (.string ⟨(ofP 2 (x : Int)).toArray⟩) (by rfl) (by intro w' hC; clear hC; go_simp) ?_ ?_
        · intro w' hC hk; exact of_any 2 (x : Int) w'
        simp only [Act.put, List.setIfInBounds_toArray, List.set_cons_zero, List.set_cons_succ]
        refine f_made (9) (#[.string ⟨(nm x).toArray⟩, .string ⟨(ofP 2 (x : Int)).toArray⟩]) 2 (by rfl) ?_ ?_
        · intro w' hC; clear hC; go_simp
        intro g
        simp only [Act.put, List.setIfInBounds_toArray, List.set_cons_zero, List.set_cons_succ]
        refine wpF_end ?_
        intro w4 hC hks
        have HCw4 := Lib.hid hC
        have HBLK := Lib.hid (Known.at hks 0 rfl)
        clear hC hks
        have HA4 := Lib.hid (owned_grow HA1.out HCw4.out)
        have HP4 := Lib.hid (HCw4.out.whole HP1.out)
        have HR4 := Lib.hid (Whole.row HBLK.out ([nm x, ofP 2 (x : Int)].map strV) 2 rfl rfl)
        refine list_app_strs rfl (.tmp 43) (.tmp 56) rfl (base := w0.heap.size + 1) rfl HA4.out (A := some ⟨g, 0, Option.none⟩) (m := 2) (c := 2) rfl HR4.out (fun h => by cases h) (2 * j + 2) rfl (by omega) HP4.out.lt ?_
        intro A5 c5 w5 ho5 hg5 hb5 hv5
        have HO5 := Lib.hid ho5
        have HB5 := Lib.hid hb5
        clear ho5 hg5 hb5 hv5
        simp only [Act.put, List.setIfInBounds_toArray, List.set_cons_zero, List.set_cons_succ]
        go_wp2_with (fail)
        refine ⟨⟨A5, c5, j + 1, k + 1, bs ++ [nm x, ofP 2 (x : Int)], cs.setIfInBounds x (.bool true), by omega, by omega, rfl, rfl, rfl, HO5, Lib.hid ?_, Lib.hid ?_, Lib.hid ?_, Lib.hid (Whole.below HP4.out HB5.out (Nat.lt_succ_self _)), Lib.hid ?_, Lib.hid (Below.trans (show Below w0.heap.size w0 w4 from Grows.trans HG1.out HCw4.out) (Below.mono HB5.out (Nat.le_succ _)))⟩, by simp [intOf]; omega⟩
        · rw [nums_append, HN.out, nums_two x HXS.out, ints_take xs j x HGET.out]
        · intro s hs
          rcases List.mem_append.1 hs with hs | hs
          · exact HL.out s hs
          · rcases List.mem_cons.1 hs with rfl | hs
            · exact nm_length x
            · rw [List.mem_singleton] at hs
              subst hs
              exact hint_length x
        · rw [ints_take xs j x HGET.out, set_more, ← HK.out, if_neg (by rw [mem_ints]; exact of_decide_eq_false HBB.out)]
        · rw [take_snoc xs j x HGET.out]
          exact HH.out.put x
      | true =>
        go_wp2_with (fail)
        obtain ⟨w1, hw1⟩ : ∃ w1, wr.setCell ⟨w0.heap.size, x, Option.none⟩ (.bool true) = w1 := ⟨_, rfl⟩
        have hA1 := HA.out.kept (grown_set wr w0.heap.size x (.bool true)) (own_above HA.out (Nat.lt_succ_self _))
        have hG1 : Grows w0 (wr.setCell ⟨w0.heap.size, x, Option.none⟩ (.bool true)) := Below.setCell (p := ⟨w0.heap.size, x, Option.none⟩) HG.out (Nat.le_refl _) _
        have hP1 := HPUT.out
        rw [hw1] at hA1 hG1 hP1 ⊢
        have HA1 := Lib.hid hA1
        have HG1 := Lib.hid hG1
        have HP1 := Lib.hid hP1
        have HCY := Lib.hid (show ∀ w', Grows w1 w' → w'.cell? (ad.add j) = some (.int .u16 (x : Int)) from fun w' h => by
          rw [(Grows.trans HG0.out (Grows.trans HG1.out h)).cell (by rw [add_block]; exact HBLKX.out)]
          exact HCW.out)
        clear hA1 hG1 hP1 hw1 hcell hhas hfree
        refine wp_region_facts_tail (E := Grows) 14 [valFact (.slice LA (2 * j) lc), valFact (.slice (some ad) n c), valFact (.int .i64 (j : Int)), valFact (.pointer (some (ad.add j))), valFact (.int .u16 (x : Int)), valFact (.int .i64 (x : Int)), valFact (.string ⟨(nm x).toArray⟩), valFact (.slice (some ad) n c), valFact (.int .i64 (j : Int)), valFact (.pointer (some (ad.add j))), valFact (.int .u16 (x : Int)), valFact (.int .i64 (x : Int)), valFact (.string ⟨(ofP 2 (x : Int)).toArray⟩), blkFact (9) (#[.string ⟨(nm x).toArray⟩, .string ⟨(ofP 2 (x : Int)).toArray⟩]) 2] mixed (by kernel_rfl) (fun _ _ _ => Grows.trans) (grows_drew _) ?_
        simp only [List.take_succ_cons, List.take_zero, List.drop_succ_cons, List.drop_zero]
        refine f_val (.slice LA (2 * j) lc) (by rfl) ?_ ?_
        · intro w' hC; clear hC; go_simp
        simp only [Act.put, List.setIfInBounds_toArray, List.set_cons_zero, List.set_cons_succ]
        refine f_val (.slice (some ad) n c) (by rfl) ?_ ?_
        · intro w' hC; clear hC; go_simp
        simp only [Act.put, List.setIfInBounds_toArray, List.set_cons_zero, List.set_cons_succ]
        refine f_val (.int .i64 (j : Int)) (by rfl) ?_ ?_
        · intro w' hC; clear hC; go_simp
        simp only [Act.put, List.setIfInBounds_toArray, List.set_cons_zero, List.set_cons_succ]
        refine f_val (.pointer (some (ad.add j))) (by rfl) ?_ ?_
        · intro w' hC; clear hC; go_simp
        simp only [Act.put, List.setIfInBounds_toArray, List.set_cons_zero, List.set_cons_succ]
        refine f_val (.int .u16 (x : Int)) (by rfl) ?_ ?_
        · intro w' hC; have cy := HCY.out w' hC; clear hC; go_simp
        simp only [Act.put, List.setIfInBounds_toArray, List.set_cons_zero, List.set_cons_succ]
        refine f_val (.int .i64 (x : Int)) (by rfl) ?_ ?_
        · intro w' hC; clear hC; go_simp
        simp only [Act.put, List.setIfInBounds_toArray, List.set_cons_zero, List.set_cons_succ]
        refine f_call 23 #[.int .i64 1, .int .i64 (x : Int)] (.string ⟨(nm x).toArray⟩) (by rfl) (by intro w' hC; clear hC; go_simp) ?_ ?_
        · intro w' hC hk; exact of_any 1 (x : Int) w'
        simp only [Act.put, List.setIfInBounds_toArray, List.set_cons_zero, List.set_cons_succ]
        refine f_val (.slice (some ad) n c) (by rfl) ?_ ?_
        · intro w' hC; clear hC; go_simp
        simp only [Act.put, List.setIfInBounds_toArray, List.set_cons_zero, List.set_cons_succ]
        refine f_val (.int .i64 (j : Int)) (by rfl) ?_ ?_
        · intro w' hC; clear hC; go_simp
        simp only [Act.put, List.setIfInBounds_toArray, List.set_cons_zero, List.set_cons_succ]
        refine f_val (.pointer (some (ad.add j))) (by rfl) ?_ ?_
        · intro w' hC; clear hC; go_simp
        simp only [Act.put, List.setIfInBounds_toArray, List.set_cons_zero, List.set_cons_succ]
        refine f_val (.int .u16 (x : Int)) (by rfl) ?_ ?_
        · intro w' hC; have cy := HCY.out w' hC; clear hC; go_simp
        simp only [Act.put, List.setIfInBounds_toArray, List.set_cons_zero, List.set_cons_succ]
        refine f_val (.int .i64 (x : Int)) (by rfl) ?_ ?_
        · intro w' hC; clear hC; go_simp
        simp only [Act.put, List.setIfInBounds_toArray, List.set_cons_zero, List.set_cons_succ]
        refine f_call 23 #[.int .i64 2, .int .i64 (x : Int)] (.string ⟨(ofP 2 (x : Int)).toArray⟩) (by rfl) (by intro w' hC; clear hC; go_simp) ?_ ?_
        · intro w' hC hk; exact of_any 2 (x : Int) w'
        simp only [Act.put, List.setIfInBounds_toArray, List.set_cons_zero, List.set_cons_succ]
        refine f_made (9) (#[.string ⟨(nm x).toArray⟩, .string ⟨(ofP 2 (x : Int)).toArray⟩]) 2 (by rfl) ?_ ?_
        · intro w' hC; clear hC; go_simp
        intro g
        simp only [Act.put, List.setIfInBounds_toArray, List.set_cons_zero, List.set_cons_succ]
        refine wpF_end ?_
        intro w4 hC hks
        have HCw4 := Lib.hid hC
        have HBLK := Lib.hid (Known.at hks 0 rfl)
        clear hC hks
        have HA4 := Lib.hid (owned_grow HA1.out HCw4.out)
        have HP4 := Lib.hid (HCw4.out.whole HP1.out)
        have HR4 := Lib.hid (Whole.row HBLK.out ([nm x, ofP 2 (x : Int)].map strV) 2 rfl rfl)
        refine list_app_strs rfl (.tmp 43) (.tmp 56) rfl (base := w0.heap.size + 1) rfl HA4.out (A := some ⟨g, 0, Option.none⟩) (m := 2) (c := 2) rfl HR4.out (fun h => by cases h) (2 * j + 2) rfl (by omega) HP4.out.lt ?_
        intro A5 c5 w5 ho5 hg5 hb5 hv5
        have HO5 := Lib.hid ho5
        have HB5 := Lib.hid hb5
        clear ho5 hg5 hb5 hv5
        simp only [Act.put, List.setIfInBounds_toArray, List.set_cons_zero, List.set_cons_succ]
        go_wp2_with (fail)
        refine ⟨⟨A5, c5, j + 1, k, bs ++ [nm x, ofP 2 (x : Int)], cs.setIfInBounds x (.bool true), by omega, by omega, rfl, rfl, rfl, HO5, Lib.hid ?_, Lib.hid ?_, Lib.hid ?_, Lib.hid (Whole.below HP4.out HB5.out (Nat.lt_succ_self _)), Lib.hid ?_, Lib.hid (Below.trans (show Below w0.heap.size w0 w4 from Grows.trans HG1.out HCw4.out) (Below.mono HB5.out (Nat.le_succ _)))⟩, by simp [intOf]; omega⟩
        · rw [nums_append, HN.out, nums_two x HXS.out, ints_take xs j x HGET.out]
        · intro s hs
          rcases List.mem_append.1 hs with hs | hs
          · exact HL.out s hs
          · rcases List.mem_cons.1 hs with rfl | hs
            · exact nm_length x
            · rw [List.mem_singleton] at hs
              subst hs
              exact hint_length x
        · rw [ints_take xs j x HGET.out, set_more, ← HK.out, if_pos (by rw [mem_ints]; exact of_decide_eq_true HBB.out), Nat.add_zero]
        · rw [take_snoc xs j x HGET.out]
          exact HH.out.put x
    · obtain rfl : j = n := by omega
      have hn := HN.out
      have hk2 := HK.out
      have hh := HH.out
      rw [List.take_of_length_le (by rw [HX.out.len]; exact Nat.le_refl _)] at hn hk2 hh
      have HN' := Lib.hid hn
      have HK' := Lib.hid hk2
      have HH' := Lib.hid hh
      clear hn hk2 hh HN HK HH
      go_wp2_with (fail)
      go_loopw [6, 10] (fun va i w2 => ∃ (LA : Option Addr) (lc q p : Nat) (bs : List (List UInt8)), p ≤ m ∧ q ≤ 2 * j + p ∧ i = .int .i64 (p : Int) ∧ va = .slice LA q lc ∧
        Hid (w2.ownsRow (w0.heap.size + 1) 9 1 (.slice LA q lc) q (bs.map strV)) ∧ Hid (numsP bs = ints xs) ∧ Hid (∀ s ∈ bs, s.length ≤ 9223372036854775807) ∧ Hid (Whole w2 w0.heap.size 46 cs) ∧ Hid (Grows w0 w2)) (fun _ i _ => m - (intOf i).toNat)
      case atStart => exact ⟨LA, lc, 2 * j, 0, bs, by omega, by omega, rfl, rfl, HA, HN', HL, HW, HG⟩
      case round =>
        obtain ⟨LB, lb, q, p, bs2, hp, hq, rfl, rfl, HA2, HN2, HL2, HW2, HG2⟩ := hrel
        by_cases hlt : p < m
        · have hlt' : (p : Int) < (m : Int) := by omega
          obtain ⟨ad2, l, rfl, hcell, hget, hll⟩ := (HY.out.grow (Grows.trans HG0.out HG2.out)).get hlt
          have HLL := Lib.hid hll
          clear hget
          by_cases h9 : l.length = 9
          · have h9f : ((l.length : Int) != 9) = false := by rw [h9]; rfl
            clear h9
            go_wp2_with (fail)
            exact ⟨⟨LB, lb, q, p + 1, bs2, by omega, by omega, rfl, rfl, HA2, HN2, HL2, HW2, HG2⟩, by simp [intOf]; omega⟩
          · have h9f : ((l.length : Int) != 9) = true := by rw [bne_iff_ne]; omega
            have HN9 := Lib.hid (nums_one l h9)
            have hm1 := Whole.made wr 9 #[.string ⟨l.toArray⟩]
            have HR := Lib.hid (Whole.row hm1 ([l].map strV) 1 rfl rfl)
            have HA3 := Lib.hid (owned_grow HA2.out (grows_alloc wr (.cells #[.string ⟨l.toArray⟩] 9)))
            have HW3 := Lib.hid ((grows_alloc wr (.cells #[.string ⟨l.toArray⟩] 9)).whole HW2.out)
            clear hm1 h9
            go_wp2_with (at_builtin
                         refine list_app_strs rfl (.tmp 70) (.tmp 75) rfl (base := w0.heap.size + 1) rfl HA3.out (A := some ⟨wr.heap.size, 0, Option.none⟩) (m := 1) (c := 1) rfl HR.out (fun h => by cases h) (q + 1) rfl (by omega) HW3.out.lt ?_
                         intro A5 c5 w5 ho5 hg5 hb5 hv5
                         have HO5 := Lib.hid ho5
                         have HB5 := Lib.hid hb5
                         clear ho5 hg5 hb5 hv5)
            refine ⟨⟨A5, c5, q + 1, p + 1, bs2 ++ [l], by omega, by omega, rfl, rfl, HO5, Lib.hid (by rw [nums_append, HN2.out, HN9.out, List.append_nil]), Lib.hid (fun s hs => ?_), Lib.hid (Whole.below HW3.out HB5.out (Nat.lt_succ_self _)), Lib.hid (Below.trans (show Below w0.heap.size w0 _ from Grows.trans HG2.out (grows_alloc _ _)) (Below.mono HB5.out (Nat.le_succ _)))⟩, by simp [intOf]; omega⟩
            rcases List.mem_append.1 hs with hs | hs
            · exact HL2.out s hs
            · rw [List.mem_singleton] at hs
              subst hs
              exact HLL.out
        · obtain rfl : p = m := by omega
          have HST := Lib.hid (strs_owned HA2.out HL2.out)
          have hseg := segs_any LB q lb bs2 wr HST.out (by omega)
          rw [HN2.out] at hseg
          have HSEG := Lib.hid hseg
          obtain ⟨vs, hvs⟩ : ∃ vs, setP (ints xs) = vs := ⟨_, rfl⟩
          have hris := set_rise (ints xs)
          rw [hvs] at hris HSEG
          have hkN : k = vs.length := by rw [HK'.out, hvs]
          have HRIS := Lib.hid hris
          have hN : vs.length ≤ 1000000 := by omega
          clear hseg hris
          go_wp2_with (fail)
          refine HSEG.out.mono ?_
          rintro e w3 ⟨A3, d3, rfl, ho3, hb3⟩
          have hW3 := (show Grows wr w3 from hb3).whole HW2.out
          have HW3 := Lib.hid hW3
          have HR3 := Lib.hid (Row.owned ho3)
          have HG3 := Lib.hid (Grows.trans HG0.out (Grows.trans HG2.out hb3))
          obtain ⟨N, hNN⟩ : ∃ N, vs.length = N := ⟨_, rfl⟩
          rw [hNN] at HR3 hkN hN ⊢
          subst hkN
          have HNN := Lib.hid hNN
          clear ho3 hb3 hW3 hNN
          go_wp2_with (fail)
          go_loopw [12] (fun i w4 => ∃ (u : Nat), u ≤ k ∧ i = .int .i64 (u : Int) ∧ Hid (Grows w3 w4)) (fun i _ => k - (intOf i).toNat)
          case atStart => exact ⟨0, by omega, rfl, Lib.hid (Grows.refl _)⟩
          case round =>
            obtain ⟨u, hu, rfl, HG4⟩ := hrel
            by_cases hlt : u < k
            · have hlt' : (u : Int) < (k : Int) := by omega
              obtain ⟨ad3, v, rfl, hc1, hv1, hb1⟩ := row_int HR3.out hlt
              have hvm : v ∈ ints xs := (HRIS.out.2 v).1 (List.mem_of_getElem? hv1)
              obtain ⟨vn, hvn, hve⟩ := List.mem_map.1 hvm
              have hvs := HX.out.small vn hvn
              have hve : v = (vn : Int) := hve.symm
              subst hve
              have hh := HH'.out.get vn hvs
              rw [decide_eq_true hvn] at hh
              have HC1 := Lib.hid (show ∀ w', Grows wr w' → w'.cell? (ad3.add u) = some (.int .i64 (vn : Int)) from fun w' h => by
                rw [(Grows.trans HG4.out h).cell (by rw [add_block]; exact hb1)]; exact hc1)
              have HC3 := Lib.hid (show ∀ w', Grows wr w' → w'.cell? ⟨w0.heap.size, vn, Option.none⟩ = some (.bool true) from fun w' h => by
                rw [((Grows.trans HG4.out h).whole HW3.out).cell vn]; exact hh)
              have HP1 := Lib.hid (show decide ((vn : Int) < 0) = false from decide_eq_false (by omega))
              have HP2 := Lib.hid (show decide ((65535 : Int) < (vn : Int)) = false from decide_eq_false (by omega))
              have p3 : (vn : Int) < 65536 := by omega
              have HV1 := Lib.hid hv1
              clear hc1 hv1 hvm hvn hh
              rcases Nat.eq_zero_or_pos u with hu0 | hu0
              · subst hu0
                have HC0 := Lib.hid (show ∀ w', Grows wr w' → w'.cell? ad3 = some (.int .i64 (vn : Int)) from fun w' h => by
                  have h0 := HC1.out w' h
                  rwa [show ad3.add 0 = ad3 from by unfold Addr.add; simp] at h0)
                go_wp2_with (fail)
                refine q_region (by kernel_rfl) (by kernel_rfl) ?_
                iterate 25
                  refine q_op' (v := ?_) (a' := ?_) (by rfl) ?_ ?_ ?_
                  rotate_left 2
                  · intro w' hC
                    have c1 := HC0.out w' hC
                    have c3 := HC3.out w' hC
                    have p1 := HP1.out
                    have p2 := HP2.out
                    go_simp
                    try with_reducible rfl
                  · simp only [Act.put, List.setIfInBounds_toArray, List.set_cons_zero, List.set_cons_succ]
                    try rfl
                iterate 10
                  refine q_skip (by rfl) ?_
                  simp only [Act.put, List.setIfInBounds_toArray, List.set_cons_zero, List.set_cons_succ]
                iterate 2
                  refine q_op' (v := ?_) (a' := ?_) (by rfl) ?_ ?_ ?_
                  rotate_left 2
                  · intro w' hC
                    have c1 := HC0.out w' hC
                    have c3 := HC3.out w' hC
                    have p1 := HP1.out
                    have p2 := HP2.out
                    go_simp
                    try with_reducible rfl
                  · simp only [Act.put, List.setIfInBounds_toArray, List.set_cons_zero, List.set_cons_succ]
                    try rfl
                refine wpQuiet_nil ?_
                intro w5 hC
                have HG5 := Lib.hid (Grows.trans HG4.out hC)
                clear hC
                go_wp2_with (fail)
                exact ⟨⟨0 + 1, by omega, rfl, HG5⟩, by simp [intOf]; omega⟩
              · obtain ⟨uu, huu⟩ : ∃ uu, u = uu + 1 := ⟨u - 1, by omega⟩
                have s1 : IntKind.i64.wrap ((u : Int) - 1) = (uu : Int) := by rw [IntWalk.i64_in _ ⟨by omega, by omega⟩]; omega
                have s2 : wrap64 ((u : Int) - 1) = (uu : Int) := by rw [← IntWalk.i64_left]; exact s1
                have p4 : (uu : Int) < (k : Int) := by omega
                obtain ⟨ad4, v2, he4, hc2, hv2, hb2⟩ := row_int HR3.out (show uu < k by omega)
                obtain rfl : ad3 = ad4 := Option.some.inj he4
                have HC2 := Lib.hid (show ∀ w', Grows wr w' → w'.cell? (ad3.add uu) = some (.int .i64 v2) from fun w' h => by
                  rw [(Grows.trans HG4.out h).cell (by rw [add_block]; exact hb2)]; exact hc2)
                have hlt2 : v2 < (vn : Int) := by
                  have hr := List.pairwise_iff_getElem.1 HRIS.out.1 uu u (by rw [HNN.out]; omega) (by rw [HNN.out]; omega) (by omega)
                  have h1 := HV1.out
                  rw [List.getElem?_eq_getElem (by rw [HNN.out]; omega), Option.some.injEq] at h1 hv2
                  rw [h1, hv2] at hr
                  exact hr
                have HP5 := Lib.hid (show decide ((vn : Int) ≤ v2) = false from decide_eq_false (by omega))
                have HP6 := Lib.hid (show decide ((0 : Int) < (u : Int)) = true from decide_eq_true (by omega))
                have HUU := Lib.hid huu
                clear he4 hc2 hv2 hlt2 huu
                go_wp2_with (fail)
                refine q_region (by kernel_rfl) (by kernel_rfl) ?_
                iterate 37
                  refine q_op' (v := ?_) (a' := ?_) (by rfl) ?_ ?_ ?_
                  rotate_left 2
                  · intro w' hC
                    have c1 := HC1.out w' hC
                    have c3 := HC3.out w' hC
                    have p1 := HP1.out
                    have p2 := HP2.out
                    have c2 := HC2.out w' hC
                    have p5 := HP5.out
                    have p6 := HP6.out
                    go_simp
                    try with_reducible rfl
                  · simp only [Act.put, List.setIfInBounds_toArray, List.set_cons_zero, List.set_cons_succ]
                    try rfl
                refine wpQuiet_nil ?_
                intro w5 hC
                have HG5 := Lib.hid (Grows.trans HG4.out hC)
                clear hC
                go_wp2_with (fail)
                exact ⟨⟨u + 1, by omega, rfl, HG5⟩, by simp [intOf]; omega⟩
            · obtain rfl : u = k := by omega
              have HGF := Lib.hid (Grows.trans HG3.out HG4.out)
              go_wp2_with (fail)
              go_ret
              exact ⟨rfl, HGF.out⟩

set_option maxRecDepth 100000 in
theorem nameAll_lifted (os : Os) (started : os.Started) (H : Type) (enc : TypeId × Value → H) :
    ReturnsInHanded {} Try.checked os 7 .any (Rows.nameAllSpec.pre6 enc Try.prog Try.f7 Rows.nameAllRow.domain false) (Rows.nameAllSpec.post enc Try.prog Try.f7 false true false false) := by
  refine lift_law (C := Try.checked) H enc own started (by kernel_rfl) Try.func7
    (ChangeSpec.witness6 (enc := enc) (C := Try.checked) false ⟨#[], #[.slice none 0 0, .slice none 0 0], []⟩ 16 (by kernel_rfl) (by kernel_rfl) (by kernel_rfl) (by kernel_rfl))
    laidOut (of_readable (by kernel_rfl)) rfl Try.underlying4 rfl (fun ds hd => ?_) (fun W base args ds p hval hA hsz => ?_)
  · match ds, hd with
    | [d1, d2], _ => rfl
  · rw [Try.params7] at hA hval hsz
    obtain ⟨v0, vs0, d0, ds0, p0, q0, hargs, rfl, rfl, h0, r0⟩ := trodAll_cons hA
    obtain ⟨v1, vs1, d1, ds1, p1, q1, rfl, rfl, rfl, h1, r1⟩ := trodAll_cons r0
    obtain ⟨rfl, rfl, rfl⟩ := trodAll_nil r1
    obtain rfl : args = #[v0, v1] := by cases args; simp_all
    obtain ⟨A0, n0, c0, xs0, rfl, hx0⟩ := open_nums Try.underlying45 Try.underlying47 (by kernel_rfl) (hval 0 45 v0 rfl rfl) h0
    obtain ⟨A1, n1, c1, xs1, rfl, hx1⟩ := open_texts Try.underlying34 Try.underlying9 (by kernel_rfl) (hval 1 34 v1 rfl rfl) h1
    exact nameAll_law W A0 n0 c0 xs0 hx0 A1 n1 c1 xs1 hx1

theorem nameAll_over : Rows.nameAllRow.holds Try.pinned (OpenSpec.ofChange Rows.nameAllSpec) :=
  OpenClaim.holds_of_wide 7 Try.f7 rfl rfl rfl rfl rfl rfl rfl ⟨rfl, rfl, rfl, rfl, rfl⟩ rfl rfl rfl rfl rfl (by kernel_rfl) Try.func7 (by kernel_rfl)
    (of_decide_eq_true (by kernel_rfl)) (by unfold Func.isWrapper; first | (rw [if_pos (by decide +kernel)]; kernel_rfl) | (rw [if_neg (by decide +kernel)]; exact ⟨rfl, rfl⟩))
    (fun os started H enc _ => nameAll_lifted os started H enc)
theorem nameAll_holds : Rows.NameAllSaid := nameAll_over
end Go.Proofs.Ytihmmndhpjnjnaa
