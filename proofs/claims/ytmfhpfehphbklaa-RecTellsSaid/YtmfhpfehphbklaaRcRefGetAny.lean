/-
  souterrainref04.get of any bytes, and souterrainref04.Get.
-/
import Derived.Test.YtmfhpfehphbklaaRcRefGet5
import Derived.Test.YtmfhpfehphbklaaRcRefPut
import Derived.Test.YtmfhpfehphbklaaRcBack
namespace Go.Proofs.Ytmfhpfehphbklaa
open Go.RowKit
set_option linter.unusedSimpArgs false
set_option linter.unusedVariables false

theorem refGetP_any (ad : Addr) (n c : Nat) (b0 : UInt8) (xs : List UInt8) (w : World) (hs : Sl w (some ad) n c (b0 :: xs)) (hn : n ≤ 20000) :
    Calls Try.prog 42 #[.slice (some ad) n c] w fun e w' => ∃ LA ln lc BA bn bc, e = .returned (.agg #[.int .i64 (refP b0.toNat xs).kind, .string ⟨(refP b0.toNat xs).key.toArray⟩, .int .i64 (refP b0.toNat xs).id, .int .i64 (refP b0.toNat xs).no, .int .i64 (refP b0.toNat xs).size, .slice LA ln lc, .slice BA bn bc]) ∧ RcOwn w' w.heap.size LA ln lc BA bn bc (refP b0.toNat xs) ∧ Below w.heap.size w w' := by
  by_cases h1 : b0.toNat = 1
  · by_cases h9 : 9 ≤ n
    · exact refGet_piece ad n c b0 xs w hs hn h1 h9
    · exact refGet_short ad n c b0 xs w hs hn h1 (by omega)
  by_cases h4 : b0.toNat = 4
  · exact refGet_tomb ad n c b0 xs w hs hn h4
  match hx : xs with
  | [] => exact refGet_one ad n c b0 [] w hs hn h1 h4 rfl
  | c0 :: ys =>
    by_cases hl : ys.length < c0.toNat
    · exact refGet_cut ad n c b0 (c0 :: ys) w hs hn h1 h4 c0 ys rfl hl
    by_cases h3 : b0.toNat = 3
    · exact refGet_inline ad n c b0 (c0 :: ys) w hs hn h1 h4 c0 ys rfl h3 hl
    by_cases hsh : ys.length < c0.toNat + 11
    · exact refGet_bare ad n c b0 (c0 :: ys) w hs hn h1 h4 c0 ys rfl h3 hl hsh
    · exact refGet_root ad n c b0 (c0 :: ys) w hs hn h1 h4 c0 ys rfl h3 hl (by omega)

set_option maxRecDepth 100000 in
set_option maxHeartbeats 4000000 in
theorem refGet_empty (A : Option Addr) (c : Nat) (w : World) :
    Calls Try.prog 15 #[.slice A 0 c] w fun e w' => ∃ LA ln lc BA bn bc, e = .returned (.tuple #[.agg #[.int .i64 (Rc.none).kind, .string ⟨(Rc.none).key.toArray⟩, .int .i64 (Rc.none).id, .int .i64 (Rc.none).no, .int .i64 (Rc.none).size, .slice LA ln lc, .slice BA bn bc], .bool false]) ∧ RcOwn w' w.heap.size LA ln lc BA bn bc (Rc.none) ∧ Below w.heap.size w w' := by
  have HZ := Lib.hid (Whole.made w 25 #[.int .i64 0, .string ⟨#[]⟩, .int .i64 0, .int .i64 0, .int .i64 0, .slice none 0 0, .slice none 0 0])
  have HG := Lib.hid (grows_alloc w (.cells #[.int .i64 0, .string ⟨#[]⟩, .int .i64 0, .int .i64 0, .int .i64 0, .slice none 0 0, .slice none 0 0] 25))
  have hz := HZ.out
  have zc0 := hz.cell 0
  have zf0 := hz.free 0
  have zc1 := hz.cell 1
  have zf1 := hz.free 1
  have zc2 := hz.cell 2
  have zf2 := hz.free 2
  have zc3 := hz.cell 3
  have zf3 := hz.free 3
  have zc4 := hz.cell 4
  have zf4 := hz.free 4
  have zc5 := hz.cell 5
  have zf5 := hz.free 5
  have zc6 := hz.cell 6
  have zf6 := hz.free 6
  simp only [List.getElem?_toArray, List.getElem?_cons_zero, List.getElem?_cons_succ] at zc0 zc1 zc2 zc3 zc4 zc5 zc6
  clear hz
  go_enter Try.func15, Try.ntmps15
  go_wp2_with (fail)
  refine bodyPost_ret (results_row_tmp rfl _ _ w.heap.size _ _ _ _ _ _ _ _ (.bool false) rfl rfl HZ.out) rfl ?_
  exact ⟨none, 0, 0, none, 0, 0, rfl, RcOwn.nil _ _ _ _ _ _ _, HG.out⟩

set_option maxRecDepth 100000 in
set_option maxHeartbeats 4000000 in
theorem refGet_long (A : Option Addr) (n : Nat) (hn : 8192 < n) (c : Nat) (w : World) :
    Calls Try.prog 15 #[.slice A n c] w fun e w' => ∃ LA ln lc BA bn bc, e = .returned (.tuple #[.agg #[.int .i64 (Rc.none).kind, .string ⟨(Rc.none).key.toArray⟩, .int .i64 (Rc.none).id, .int .i64 (Rc.none).no, .int .i64 (Rc.none).size, .slice LA ln lc, .slice BA bn bc], .bool false]) ∧ RcOwn w' w.heap.size LA ln lc BA bn bc (Rc.none) ∧ Below w.heap.size w w' := by
  have hn1 : ¬ (n : Int) = 0 := by omega
  have hn2 : (8192 : Int) < (n : Int) := by omega
  have hn0 : ¬ n = 0 := by omega
  have HZ := Lib.hid (Whole.made w 25 #[.int .i64 0, .string ⟨#[]⟩, .int .i64 0, .int .i64 0, .int .i64 0, .slice none 0 0, .slice none 0 0])
  have HG := Lib.hid (grows_alloc w (.cells #[.int .i64 0, .string ⟨#[]⟩, .int .i64 0, .int .i64 0, .int .i64 0, .slice none 0 0, .slice none 0 0] 25))
  have hz := HZ.out
  have zc0 := hz.cell 0
  have zf0 := hz.free 0
  have zc1 := hz.cell 1
  have zf1 := hz.free 1
  have zc2 := hz.cell 2
  have zf2 := hz.free 2
  have zc3 := hz.cell 3
  have zf3 := hz.free 3
  have zc4 := hz.cell 4
  have zf4 := hz.free 4
  have zc5 := hz.cell 5
  have zf5 := hz.free 5
  have zc6 := hz.cell 6
  have zf6 := hz.free 6
  simp only [List.getElem?_toArray, List.getElem?_cons_zero, List.getElem?_cons_succ] at zc0 zc1 zc2 zc3 zc4 zc5 zc6
  clear hz
  go_enter Try.func15, Try.ntmps15
  go_wp2_with (fail)
  refine bodyPost_ret (results_row_tmp rfl _ _ w.heap.size _ _ _ _ _ _ _ _ (.bool false) rfl rfl HZ.out) rfl ?_
  exact ⟨none, 0, 0, none, 0, 0, rfl, RcOwn.nil _ _ _ _ _ _ _, HG.out⟩

set_option maxRecDepth 100000 in
set_option maxHeartbeats 4000000 in
theorem refGet_is (ad : Addr) (n c : Nat) (b0 : UInt8) (xs : List UInt8) (w : World) (hs : Sl w (some ad) n c (b0 :: xs)) (hn : n ≤ 8192) (hp : putR (refP b0.toNat xs) = b0 :: xs) :
    Calls Try.prog 15 #[.slice (some ad) n c] w fun e w' => ∃ LA ln lc BA bn bc, e = .returned (.tuple #[.agg #[.int .i64 (refP b0.toNat xs).kind, .string ⟨(refP b0.toNat xs).key.toArray⟩, .int .i64 (refP b0.toNat xs).id, .int .i64 (refP b0.toNat xs).no, .int .i64 (refP b0.toNat xs).size, .slice LA ln lc, .slice BA bn bc], .bool true]) ∧ RcOwn w' w.heap.size LA ln lc BA bn bc (refP b0.toNat xs) ∧ Below w.heap.size w w' := by
  obtain ⟨R, hR⟩ : ∃ R, refP b0.toNat xs = R := ⟨_, rfl⟩
  rw [hR] at hp ⊢
  obtain ⟨kd, ks, id, no, size, ls, bs⟩ := R
  try dsimp only
  have hlen := hs.len
  have hcap := hs.cap
  simp only [List.length_cons] at hlen
  have HRP := Lib.hid hR
  clear hR
  have hn1 : ¬ (n : Int) = 0 := by omega
  have hn2 : ¬ (8192 : Int) < (n : Int) := by omega
  have hn0 : ¬ n = 0 := by omega
  have HN := Lib.hid (And.intro hlen hn)
  have HS := Lib.hid hs
  clear hs hlen hn
  go_enter Try.func15, Try.ntmps15
  go_wp2_with (fail)
  have hget := refGetP_any ad n c b0 xs _ (HS.out.grow (grows_alloc w (.cells #[.int .i64 0, .string ⟨#[]⟩, .int .i64 0, .int .i64 0, .int .i64 0, .slice none 0 0, .slice none 0 0] 25))) (by have := HN.out.2; omega)
  rw [HRP.out] at hget
  dsimp only at hget
  refine hget.mono ?_
  clear hget
  rintro e w1 ⟨LA, ln, lc, BA, bn, bc, rfl, hr, hb1⟩
  rw [World.size_alloc] at hr hb1
  have k20 := grows_alloc w1 (.cells #[.int .i64 kd, .string ⟨ks.toArray⟩, .int .i64 id, .int .i64 no, .int .i64 size, .slice LA ln lc, .slice BA bn bc] 25)
  have HR := Lib.hid (hr.grow k20)
  have HG1 := Lib.hid (show Grows w w1 from Grows.trans (grows_alloc w (.cells #[.int .i64 0, .string ⟨#[]⟩, .int .i64 0, .int .i64 0, .int .i64 0, .slice none 0 0, .slice none 0 0] 25)) (show Grows (w.alloc (.cells #[.int .i64 0, .string ⟨#[]⟩, .int .i64 0, .int .i64 0, .int .i64 0, .slice none 0 0, .slice none 0 0] 25)) w1 from by unfold Grows; rw [World.size_alloc]; exact hb1))
  have HZ0 := Lib.hid ((show Grows (w.alloc (.cells #[.int .i64 0, .string ⟨#[]⟩, .int .i64 0, .int .i64 0, .int .i64 0, .slice none 0 0, .slice none 0 0] 25)) w1 from by unfold Grows; rw [World.size_alloc]; exact hb1).whole (Whole.made w 25 #[.int .i64 0, .string ⟨#[]⟩, .int .i64 0, .int .i64 0, .int .i64 0, .slice none 0 0, .slice none 0 0]))
  have hx8 := Whole.made w1 25 #[.int .i64 kd, .string ⟨ks.toArray⟩, .int .i64 id, .int .i64 no, .int .i64 size, .slice LA ln lc, .slice BA bn bc]
  obtain ⟨V, hV⟩ : ∃ V, w1.alloc (.cells #[.int .i64 kd, .string ⟨ks.toArray⟩, .int .i64 id, .int .i64 no, .int .i64 size, .slice LA ln lc, .slice BA bn bc] 25) = V := ⟨_, rfl⟩
  have HZV := Lib.hid (k20.whole HZ0.out)
  have HGV := Lib.hid (Grows.trans HG1.out k20)
  have HX8 := Lib.hid hx8
  rw [hV] at HX8 HR HZV HGV
  have HB8 := Lib.hid (HS.out.grow HGV.out)
  have hPL := hp
  obtain ⟨X, hX⟩ : ∃ X, b0 :: xs = X := ⟨_, rfl⟩
  rw [hX] at HB8 hp hPL
  have hpp : ∀ w', Grows V w' → Calls Try.prog 19 #[.agg #[.int .i64 kd, .string ⟨ks.toArray⟩, .int .i64 id, .int .i64 no, .int .i64 size, .slice LA ln lc, .slice BA bn bc]] w' fun e w'' => ∃ A m c, e = .returned (.slice A m c) ∧ Sl w'' A m c X ∧ Below w'.heap.size w' w'' := fun w' hg => (refPut_own ks kd id no size LA ln lc BA bn bc ls bs w' ((HR.out.inn).grow hg)).mono fun e w'' ⟨A', m', c', he, ho, hb⟩ => ⟨A', m', c', he, by rw [hPL] at ho; exact Sl.owned ho, hb⟩
  have HPY := Lib.hid hpp
  have yc0 : ∀ w', Grows V w' → w'.cell? ⟨w1.heap.size, 0, none⟩ = some (.int .i64 kd) := fun w' hg => (hg.whole HX8.out).cell 0
  have yc1 : ∀ w', Grows V w' → w'.cell? ⟨w1.heap.size, 1, none⟩ = some (.string ⟨ks.toArray⟩) := fun w' hg => (hg.whole HX8.out).cell 1
  have yc2 : ∀ w', Grows V w' → w'.cell? ⟨w1.heap.size, 2, none⟩ = some (.int .i64 id) := fun w' hg => (hg.whole HX8.out).cell 2
  have yc3 : ∀ w', Grows V w' → w'.cell? ⟨w1.heap.size, 3, none⟩ = some (.int .i64 no) := fun w' hg => (hg.whole HX8.out).cell 3
  have yc4 : ∀ w', Grows V w' → w'.cell? ⟨w1.heap.size, 4, none⟩ = some (.int .i64 size) := fun w' hg => (hg.whole HX8.out).cell 4
  have yc5 : ∀ w', Grows V w' → w'.cell? ⟨w1.heap.size, 5, none⟩ = some (.slice LA ln lc) := fun w' hg => (hg.whole HX8.out).cell 5
  have yc6 : ∀ w', Grows V w' → w'.cell? ⟨w1.heap.size, 6, none⟩ = some (.slice BA bn bc) := fun w' hg => (hg.whole HX8.out).cell 6
  clear hr hb1 k20 hx8 hp hPL hX hpp
  go_wp2_with (fail)
  try rw [hV]
  refine wp_region_facts (E := Grows) [valFact (.agg #[.int .i64 kd, .string ⟨ks.toArray⟩, .int .i64 id, .int .i64 no, .int .i64 size, .slice LA ln lc, .slice BA bn bc]), slFact (X), valFact (.string ⟨X.toArray⟩), valFact (.slice (some ad) n c), valFact (.string ⟨X.toArray⟩), valFact (.bool false)] (by kernel_rfl) (by kernel_rfl) (fun _ _ _ => Grows.trans) (grows_drew _) ?_
  refine f_known (.agg #[.int .i64 kd, .string ⟨ks.toArray⟩, .int .i64 id, .int .i64 no, .int .i64 size, .slice LA ln lc, .slice BA bn bc]) (by rfl) ?_ ?_
  · intro w' hC _; go_simp
  simp only [Act.put, List.setIfInBounds_toArray, List.set_cons_zero, List.set_cons_succ]
  refine f_new (X) 19 #[.agg #[.int .i64 kd, .string ⟨ks.toArray⟩, .int .i64 id, .int .i64 no, .int .i64 size, .slice LA ln lc, .slice BA bn bc]] (by rfl) (by intro w' hC; clear hC; go_simp) ?_ ?_
  · intro w' hC _; exact (HPY.out w' hC)
  intro A20 c20
  simp only [Act.put, List.setIfInBounds_toArray, List.set_cons_zero, List.set_cons_succ]
  refine f_known (.string ⟨X.toArray⟩) (by rfl) ?_ ?_
  · intro w' hC hk; exact run_op_string rfl rfl (Known.get hk 0 rfl (by rfl))
  simp only [Act.put, List.setIfInBounds_toArray, List.set_cons_zero, List.set_cons_succ]
  refine f_val (.slice (some ad) n c) (by rfl) ?_ ?_
  · intro w' hC; clear hC; go_simp
  simp only [Act.put, List.setIfInBounds_toArray, List.set_cons_zero, List.set_cons_succ]
  refine f_known (.string ⟨X.toArray⟩) (by rfl) ?_ ?_
  · intro w' hC _; exact run_op_string rfl rfl (HB8.out.grow hC)
  simp only [Act.put, List.setIfInBounds_toArray, List.set_cons_zero, List.set_cons_succ]
  refine f_val (.bool false) (by rfl) ?_ ?_
  · intro w' hC; clear hC; go_simp
  simp only [Act.put, List.setIfInBounds_toArray, List.set_cons_zero, List.set_cons_succ]
  intro w21 hC _
  have HCw21 := Lib.hid hC
  clear hC
  have HZ := Lib.hid (HCw21.out.whole HZV.out)
  have HG := Lib.hid (Grows.trans HGV.out HCw21.out)
  have hz := HZ.out
  have zc0 := hz.cell 0
  have zf0 := hz.free 0
  have zc1 := hz.cell 1
  have zf1 := hz.free 1
  have zc2 := hz.cell 2
  have zf2 := hz.free 2
  have zc3 := hz.cell 3
  have zf3 := hz.free 3
  have zc4 := hz.cell 4
  have zf4 := hz.free 4
  have zc5 := hz.cell 5
  have zf5 := hz.free 5
  have zc6 := hz.cell 6
  have zf6 := hz.free 6
  simp only [List.getElem?_toArray, List.getElem?_cons_zero, List.getElem?_cons_succ] at zc0 zc1 zc2 zc3 zc4 zc5 zc6
  clear hz
  have y0 := yc0 w21 HCw21.out
  have y1 := yc1 w21 HCw21.out
  have y2 := yc2 w21 HCw21.out
  have y3 := yc3 w21 HCw21.out
  have y4 := yc4 w21 HCw21.out
  have y5 := yc5 w21 HCw21.out
  have y6 := yc6 w21 HCw21.out
  go_wp2_with (fail)
  obtain ⟨W, hW, hwh, hwt⟩ := store7 HZ.out (.int .i64 kd) (.string ⟨ks.toArray⟩) (.int .i64 id) (.int .i64 no) (.int .i64 size) (.slice LA ln lc) (.slice BA bn bc)
  rw [hW]
  have hbW := hwt.below (by have := HZ.out.lt; omega)
  clear hW
  refine bodyPost_ret (results_row_tmp rfl _ _ w.heap.size _ _ _ _ _ _ _ _ (.bool true) rfl rfl hwh) rfl ?_
  have q1 := HR.out.grow HCw21.out
  have q2 := q1.turn hwt (Nat.lt_succ_self _)
  have q3 := RcOwn.from (base := w.heap.size) q2 (Nat.le_succ _)
  exact ⟨LA, ln, lc, BA, bn, bc, rfl, q3, Below.trans HG.out hbW⟩

set_option maxRecDepth 100000 in
set_option maxHeartbeats 4000000 in
theorem refGet_not (ad : Addr) (n c : Nat) (b0 : UInt8) (xs : List UInt8) (w : World) (hs : Sl w (some ad) n c (b0 :: xs)) (hn : n ≤ 8192) (hp : putR (refP b0.toNat xs) ≠ b0 :: xs) :
    Calls Try.prog 15 #[.slice (some ad) n c] w fun e w' => ∃ LA ln lc BA bn bc, e = .returned (.tuple #[.agg #[.int .i64 (Rc.none).kind, .string ⟨(Rc.none).key.toArray⟩, .int .i64 (Rc.none).id, .int .i64 (Rc.none).no, .int .i64 (Rc.none).size, .slice LA ln lc, .slice BA bn bc], .bool false]) ∧ RcOwn w' w.heap.size LA ln lc BA bn bc (Rc.none) ∧ Below w.heap.size w w' := by
  obtain ⟨R, hR⟩ : ∃ R, refP b0.toNat xs = R := ⟨_, rfl⟩
  rw [hR] at hp
  obtain ⟨kd, ks, id, no, size, ls, bs⟩ := R
  try dsimp only
  have hlen := hs.len
  have hcap := hs.cap
  simp only [List.length_cons] at hlen
  have HRP := Lib.hid hR
  clear hR
  have hn1 : ¬ (n : Int) = 0 := by omega
  have hn2 : ¬ (8192 : Int) < (n : Int) := by omega
  have hn0 : ¬ n = 0 := by omega
  have HN := Lib.hid (And.intro hlen hn)
  have HS := Lib.hid hs
  clear hs hlen hn
  go_enter Try.func15, Try.ntmps15
  go_wp2_with (fail)
  have hget := refGetP_any ad n c b0 xs _ (HS.out.grow (grows_alloc w (.cells #[.int .i64 0, .string ⟨#[]⟩, .int .i64 0, .int .i64 0, .int .i64 0, .slice none 0 0, .slice none 0 0] 25))) (by have := HN.out.2; omega)
  rw [HRP.out] at hget
  dsimp only at hget
  refine hget.mono ?_
  clear hget
  rintro e w1 ⟨LA, ln, lc, BA, bn, bc, rfl, hr, hb1⟩
  rw [World.size_alloc] at hr hb1
  have k20 := grows_alloc w1 (.cells #[.int .i64 kd, .string ⟨ks.toArray⟩, .int .i64 id, .int .i64 no, .int .i64 size, .slice LA ln lc, .slice BA bn bc] 25)
  have HR := Lib.hid (hr.grow k20)
  have HG1 := Lib.hid (show Grows w w1 from Grows.trans (grows_alloc w (.cells #[.int .i64 0, .string ⟨#[]⟩, .int .i64 0, .int .i64 0, .int .i64 0, .slice none 0 0, .slice none 0 0] 25)) (show Grows (w.alloc (.cells #[.int .i64 0, .string ⟨#[]⟩, .int .i64 0, .int .i64 0, .int .i64 0, .slice none 0 0, .slice none 0 0] 25)) w1 from by unfold Grows; rw [World.size_alloc]; exact hb1))
  have HZ0 := Lib.hid ((show Grows (w.alloc (.cells #[.int .i64 0, .string ⟨#[]⟩, .int .i64 0, .int .i64 0, .int .i64 0, .slice none 0 0, .slice none 0 0] 25)) w1 from by unfold Grows; rw [World.size_alloc]; exact hb1).whole (Whole.made w 25 #[.int .i64 0, .string ⟨#[]⟩, .int .i64 0, .int .i64 0, .int .i64 0, .slice none 0 0, .slice none 0 0]))
  have hx8 := Whole.made w1 25 #[.int .i64 kd, .string ⟨ks.toArray⟩, .int .i64 id, .int .i64 no, .int .i64 size, .slice LA ln lc, .slice BA bn bc]
  obtain ⟨V, hV⟩ : ∃ V, w1.alloc (.cells #[.int .i64 kd, .string ⟨ks.toArray⟩, .int .i64 id, .int .i64 no, .int .i64 size, .slice LA ln lc, .slice BA bn bc] 25) = V := ⟨_, rfl⟩
  have HZV := Lib.hid (k20.whole HZ0.out)
  have HGV := Lib.hid (Grows.trans HG1.out k20)
  have HX8 := Lib.hid hx8
  rw [hV] at HX8 HR HZV HGV
  have HB8 := Lib.hid (HS.out.grow HGV.out)
  obtain ⟨PL, hPL⟩ : ∃ L, putR (⟨kd, ks, id, no, size, ls, bs⟩ : Rc) = L := ⟨_, rfl⟩
  rw [hPL] at hp
  obtain ⟨X, hX⟩ : ∃ X, b0 :: xs = X := ⟨_, rfl⟩
  rw [hX] at HB8 hp
  have hpp : ∀ w', Grows V w' → Calls Try.prog 19 #[.agg #[.int .i64 kd, .string ⟨ks.toArray⟩, .int .i64 id, .int .i64 no, .int .i64 size, .slice LA ln lc, .slice BA bn bc]] w' fun e w'' => ∃ A m c, e = .returned (.slice A m c) ∧ Sl w'' A m c PL ∧ Below w'.heap.size w' w'' := fun w' hg => (refPut_own ks kd id no size LA ln lc BA bn bc ls bs w' ((HR.out.inn).grow hg)).mono fun e w'' ⟨A', m', c', he, ho, hb⟩ => ⟨A', m', c', he, by rw [hPL] at ho; exact Sl.owned ho, hb⟩
  have HPY := Lib.hid hpp
  have yc0 : ∀ w', Grows V w' → w'.cell? ⟨w1.heap.size, 0, none⟩ = some (.int .i64 kd) := fun w' hg => (hg.whole HX8.out).cell 0
  have yc1 : ∀ w', Grows V w' → w'.cell? ⟨w1.heap.size, 1, none⟩ = some (.string ⟨ks.toArray⟩) := fun w' hg => (hg.whole HX8.out).cell 1
  have yc2 : ∀ w', Grows V w' → w'.cell? ⟨w1.heap.size, 2, none⟩ = some (.int .i64 id) := fun w' hg => (hg.whole HX8.out).cell 2
  have yc3 : ∀ w', Grows V w' → w'.cell? ⟨w1.heap.size, 3, none⟩ = some (.int .i64 no) := fun w' hg => (hg.whole HX8.out).cell 3
  have yc4 : ∀ w', Grows V w' → w'.cell? ⟨w1.heap.size, 4, none⟩ = some (.int .i64 size) := fun w' hg => (hg.whole HX8.out).cell 4
  have yc5 : ∀ w', Grows V w' → w'.cell? ⟨w1.heap.size, 5, none⟩ = some (.slice LA ln lc) := fun w' hg => (hg.whole HX8.out).cell 5
  have yc6 : ∀ w', Grows V w' → w'.cell? ⟨w1.heap.size, 6, none⟩ = some (.slice BA bn bc) := fun w' hg => (hg.whole HX8.out).cell 6
  have HNE := Lib.hid hp
  clear hr hb1 k20 hx8 hp hPL hX hpp
  go_wp2_with (fail)
  try rw [hV]
  refine wp_region_facts (E := Grows) [valFact (.agg #[.int .i64 kd, .string ⟨ks.toArray⟩, .int .i64 id, .int .i64 no, .int .i64 size, .slice LA ln lc, .slice BA bn bc]), slFact (PL), valFact (.string ⟨PL.toArray⟩), valFact (.slice (some ad) n c), valFact (.string ⟨X.toArray⟩), valFact (.bool true)] (by kernel_rfl) (by kernel_rfl) (fun _ _ _ => Grows.trans) (grows_drew _) ?_
  refine f_known (.agg #[.int .i64 kd, .string ⟨ks.toArray⟩, .int .i64 id, .int .i64 no, .int .i64 size, .slice LA ln lc, .slice BA bn bc]) (by rfl) ?_ ?_
  · intro w' hC _; go_simp
  simp only [Act.put, List.setIfInBounds_toArray, List.set_cons_zero, List.set_cons_succ]
  refine f_new (PL) 19 #[.agg #[.int .i64 kd, .string ⟨ks.toArray⟩, .int .i64 id, .int .i64 no, .int .i64 size, .slice LA ln lc, .slice BA bn bc]] (by rfl) (by intro w' hC; clear hC; go_simp) ?_ ?_
  · intro w' hC _; exact (HPY.out w' hC)
  intro A20 c20
  simp only [Act.put, List.setIfInBounds_toArray, List.set_cons_zero, List.set_cons_succ]
  refine f_known (.string ⟨PL.toArray⟩) (by rfl) ?_ ?_
  · intro w' hC hk; exact run_op_string rfl rfl (Known.get hk 0 rfl (by rfl))
  simp only [Act.put, List.setIfInBounds_toArray, List.set_cons_zero, List.set_cons_succ]
  refine f_val (.slice (some ad) n c) (by rfl) ?_ ?_
  · intro w' hC; clear hC; go_simp
  simp only [Act.put, List.setIfInBounds_toArray, List.set_cons_zero, List.set_cons_succ]
  refine f_known (.string ⟨X.toArray⟩) (by rfl) ?_ ?_
  · intro w' hC _; exact run_op_string rfl rfl (HB8.out.grow hC)
  simp only [Act.put, List.setIfInBounds_toArray, List.set_cons_zero, List.set_cons_succ]
  refine f_val (.bool true) (by rfl) ?_ ?_
  · intro w' hC; clear hC; (go_simp; exact HNE.out)
  simp only [Act.put, List.setIfInBounds_toArray, List.set_cons_zero, List.set_cons_succ]
  intro w21 hC _
  have HCw21 := Lib.hid hC
  clear hC
  have HZ := Lib.hid (HCw21.out.whole HZV.out)
  have HG := Lib.hid (Grows.trans HGV.out HCw21.out)
  have hz := HZ.out
  have zc0 := hz.cell 0
  have zf0 := hz.free 0
  have zc1 := hz.cell 1
  have zf1 := hz.free 1
  have zc2 := hz.cell 2
  have zf2 := hz.free 2
  have zc3 := hz.cell 3
  have zf3 := hz.free 3
  have zc4 := hz.cell 4
  have zf4 := hz.free 4
  have zc5 := hz.cell 5
  have zf5 := hz.free 5
  have zc6 := hz.cell 6
  have zf6 := hz.free 6
  simp only [List.getElem?_toArray, List.getElem?_cons_zero, List.getElem?_cons_succ] at zc0 zc1 zc2 zc3 zc4 zc5 zc6
  clear hz
  go_wp2_with (fail)
  obtain ⟨W, hW, hwh, hwt⟩ := store7 HZ.out (.int .i64 0) (.string ⟨#[]⟩) (.int .i64 0) (.int .i64 0) (.int .i64 0) (.slice none 0 0) (.slice none 0 0)
  rw [hW]
  have hbW := hwt.below (by have := HZ.out.lt; omega)
  clear hW
  refine bodyPost_ret (results_row_tmp rfl _ _ w.heap.size _ _ _ _ _ _ _ _ (.bool false) rfl rfl hwh) rfl ?_
  exact ⟨none, 0, 0, none, 0, 0, rfl, RcOwn.nil _ _ _ _ _ _ _, Below.trans HG.out hbW⟩

theorem refGet_any (A : Option Addr) (n c : Nat) (bs : List UInt8) (w : World) (hs : Sl w A n c bs) :
    Calls Try.prog 15 #[.slice A n c] w fun e w' => ∃ LA ln lc BA bn bc, e = .returned (.tuple #[.agg #[.int .i64 ((getR bs).getD Rc.none).kind, .string ⟨((getR bs).getD Rc.none).key.toArray⟩, .int .i64 ((getR bs).getD Rc.none).id, .int .i64 ((getR bs).getD Rc.none).no, .int .i64 ((getR bs).getD Rc.none).size, .slice LA ln lc, .slice BA bn bc], .bool (getR bs).isSome]) ∧ RcOwn w' w.heap.size LA ln lc BA bn bc ((getR bs).getD Rc.none) ∧ Below w.heap.size w w' := by
  have hlen := hs.len
  match bs, hlen with
  | [], hlen =>
    obtain rfl : n = 0 := by simpa using hlen.symm
    exact refGet_empty A c w
  | b0 :: xs, hlen =>
    simp only [List.length_cons] at hlen
    obtain ⟨ad, rfl, _, _⟩ := hs.bytes.spot (k := 0) (by omega)
    by_cases h8 : 8192 < n
    · have hg : getR (b0 :: xs) = Option.none := by
        cases hq : getR (b0 :: xs) with
        | none => rfl
        | some y =>
          obtain ⟨h1, h2⟩ := put_get hq
          have := (put_body h1).2
          rw [h2] at this
          simp only [List.length_cons] at this
          omega
      rw [hg]
      exact refGet_long (some ad) n h8 c w
    · have hg := refP_get b0 xs
      by_cases hp : putR (refP b0.toNat xs) = b0 :: xs
      · rw [if_pos hp] at hg
        rw [hg]
        exact refGet_is ad n c b0 xs w hs (by omega) hp
      · rw [if_neg hp] at hg
        rw [hg]
        exact refGet_not ad n c b0 xs w hs (by omega) hp
end Go.Proofs.Ytmfhpfehphbklaa
