import Derived.Test.YtlldcogkcjnejaaGreatRcRefGet5
import Derived.Test.YtlldcogkcjnejaaGreatRcRefPut
import Derived.Test.YtlldcogkcjnejaaGreatMG27
namespace Go.Proofs.YtlldcogkcjnejaaGreat
open Go.Lib (hid)
open Go.RowKit

theorem Zeo (ad : Addr) (n c : Nat) (b0 : UInt8) (xs : List UInt8) (w : World) (hs : Sl w (some ad) n c (b0 :: xs)) (hn : n ≤ 20000) :
 Calls Tryz.prog 107 #[.slice (some ad) n c] w fun e w' => ∃ LA ln lc BA bn bc, e = .returned (.agg #[.int .i64 (refP b0.toNat xs).kind, .string ⟨(refP b0.toNat xs).key.toArray⟩, .int .i64 (refP b0.toNat xs).id, .int .i64 (refP b0.toNat xs).no, .int .i64 (refP b0.toNat xs).size, .slice LA ln lc, .slice BA bn bc]) ∧ RcOwn w' w.heap.size LA ln lc BA bn bc (refP b0.toNat xs) ∧ Below w.heap.size w w' := by
 by_cases h1 : b0.toNat = 1
 ·by_cases h9 : 9 ≤ n
  ·exact Zh5 ad n c b0 xs w hs hn h1 h9
  ·exact Zh4 ad n c b0 xs w hs hn h1 (by omega)
 by_cases h4 : b0.toNat = 4
 ·exact Zi9 ad n c b0 xs w hs hn h4
 match hx : xs with
 | [] => exact Zle ad n c b0 [] w hs hn h1 h4 rfl
 | c0 :: ys =>
   by_cases hl : ys.length < c0.toNat
   ·exact Zlf ad n c b0 (c0 :: ys) w hs hn h1 h4 c0 ys rfl hl
   by_cases h3 : b0.toNat = 3
   ·exact Zgm ad n c b0 (c0 :: ys) w hs hn h1 h4 c0 ys rfl h3 hl
   by_cases hsh : ys.length < c0.toNat + 11
   ·exact Zi8 ad n c b0 (c0 :: ys) w hs hn h1 h4 c0 ys rfl h3 hl hsh
   ·exact Zi7 ad n c b0 (c0 :: ys) w hs hn h1 h4 c0 ys rfl h3 hl (by omega)

set_option maxRecDepth 100000 in
set_option maxHeartbeats 4000000 in
theorem Zh3 (A : Option Addr) (c : Nat) (w : World) :
 Calls Tryz.prog 66 #[.slice A 0 c] w fun e w' => ∃ LA ln lc BA bn bc, e = .returned (.tuple #[.agg #[.int .i64 (Rc.none).kind, .string ⟨(Rc.none).key.toArray⟩, .int .i64 (Rc.none).id, .int .i64 (Rc.none).no, .int .i64 (Rc.none).size, .slice LA ln lc, .slice BA bn bc], .bool false]) ∧ RcOwn w' w.heap.size LA ln lc BA bn bc (Rc.none) ∧ Below w.heap.size w w' := by
 have HZ := hid (Whole.made w 33 #[.int .i64 0, .string ⟨#[]⟩, .int .i64 0, .int .i64 0, .int .i64 0, .slice none 0 0, .slice none 0 0])
 have HG := hid (Zb w (.cells #[.int .i64 0, .string ⟨#[]⟩, .int .i64 0, .int .i64 0, .int .i64 0, .slice none 0 0, .slice none 0 0] 33))
 have hz := HZ.out
 have zc0 := hz.cell 0
 have zf0 := hz.free 0
 have zc1 := hz.cell 1
 have zf1 := hz.free 1
 have zc2 := hz.cell 2
 have zf2 := hz.free 2
 have zc3 := hz.cell 3
 have zf3 := hz.free 3
 have zc4 := hz.cell 4
 have zf4 := hz.free 4
 have zc5 := hz.cell 5
 have zf5 := hz.free 5
 have zc6 := hz.cell 6
 have zf6 := hz.free 6
 simp only [Gt] at zc0 zc1 zc2 zc3 zc4 zc5 zc6
 clear hz
 go_enter Tryz.func66, Tryz.ntmps66
 go_wp2_with (fail)
 refine bodyPost_ret (Zk rfl _ _ w.heap.size _ _ _ _ _ _ _ _ (.bool false) rfl rfl HZ.out) rfl ?_
 exact ⟨none, 0, 0, none, 0, 0, rfl, RcOwn.nil _ _ _ _ _ _ _, HG.out⟩

set_option maxRecDepth 100000 in
set_option maxHeartbeats 4000000 in
theorem Zi6 (A : Option Addr) (n : Nat) (hn : 8192 < n) (c : Nat) (w : World) :
 Calls Tryz.prog 66 #[.slice A n c] w fun e w' => ∃ LA ln lc BA bn bc, e = .returned (.tuple #[.agg #[.int .i64 (Rc.none).kind, .string ⟨(Rc.none).key.toArray⟩, .int .i64 (Rc.none).id, .int .i64 (Rc.none).no, .int .i64 (Rc.none).size, .slice LA ln lc, .slice BA bn bc], .bool false]) ∧ RcOwn w' w.heap.size LA ln lc BA bn bc (Rc.none) ∧ Below w.heap.size w w' := by
 have hn1 : ¬ (n : Int) = 0 := by omega
 have hn2 : (8192 : Int) < (n : Int) := by omega
 have hn0 : ¬ n = 0 := by omega
 have HZ := hid (Whole.made w 33 #[.int .i64 0, .string ⟨#[]⟩, .int .i64 0, .int .i64 0, .int .i64 0, .slice none 0 0, .slice none 0 0])
 have HG := hid (Zb w (.cells #[.int .i64 0, .string ⟨#[]⟩, .int .i64 0, .int .i64 0, .int .i64 0, .slice none 0 0, .slice none 0 0] 33))
 have hz := HZ.out
 have zc0 := hz.cell 0
 have zf0 := hz.free 0
 have zc1 := hz.cell 1
 have zf1 := hz.free 1
 have zc2 := hz.cell 2
 have zf2 := hz.free 2
 have zc3 := hz.cell 3
 have zf3 := hz.free 3
 have zc4 := hz.cell 4
 have zf4 := hz.free 4
 have zc5 := hz.cell 5
 have zf5 := hz.free 5
 have zc6 := hz.cell 6
 have zf6 := hz.free 6
 simp only [Gt] at zc0 zc1 zc2 zc3 zc4 zc5 zc6
 clear hz
 go_enter Tryz.func66, Tryz.ntmps66
 go_wp2_with (fail)
 refine bodyPost_ret (Zk rfl _ _ w.heap.size _ _ _ _ _ _ _ _ (.bool false) rfl rfl HZ.out) rfl ?_
 exact ⟨none, 0, 0, none, 0, 0, rfl, RcOwn.nil _ _ _ _ _ _ _, HG.out⟩

set_option maxRecDepth 100000 in
set_option maxHeartbeats 4000000 in
theorem Zoa (ad : Addr) (n c : Nat) (b0 : UInt8) (xs : List UInt8) (w : World) (hs : Sl w (some ad) n c (b0 :: xs)) (hn : n ≤ 8192) (hp : putR (refP b0.toNat xs) = b0 :: xs) :
 Calls Tryz.prog 66 #[.slice (some ad) n c] w fun e w' => ∃ LA ln lc BA bn bc, e = .returned (.tuple #[.agg #[.int .i64 (refP b0.toNat xs).kind, .string ⟨(refP b0.toNat xs).key.toArray⟩, .int .i64 (refP b0.toNat xs).id, .int .i64 (refP b0.toNat xs).no, .int .i64 (refP b0.toNat xs).size, .slice LA ln lc, .slice BA bn bc], .bool true]) ∧ RcOwn w' w.heap.size LA ln lc BA bn bc (refP b0.toNat xs) ∧ Below w.heap.size w w' := by
 obtain ⟨R, hR⟩ : ∃ R, refP b0.toNat xs = R := ⟨_, rfl⟩
 rw [hR] at hp ⊢
 obtain ⟨kd, ks, id, no, size, ls, bs⟩ := R
 try dsimp only
 have hlen := hs.len
 have hcap := hs.cap
 simp only [List.length_cons] at hlen
 have HRP := hid hR
 clear hR
 have hn1 : ¬ (n : Int) = 0 := by omega
 have hn2 : ¬ (8192 : Int) < (n : Int) := by omega
 have hn0 : ¬ n = 0 := by omega
 have HN := hid (And.intro hlen hn)
 have HS := hid hs
 clear hs hlen hn
 go_enter Tryz.func66, Tryz.ntmps66
 go_wp2_with (fail)
 have hget := Zeo ad n c b0 xs _ (HS.out.grow (Zb w (.cells #[.int .i64 0, .string ⟨#[]⟩, .int .i64 0, .int .i64 0, .int .i64 0, .slice none 0 0, .slice none 0 0] 33))) (by have := HN.out.2; omega)
 rw [HRP.out] at hget
 dsimp only at hget
 refine hget.mono ?_
 clear hget
 rintro e w1 ⟨LA, ln, lc, BA, bn, bc, rfl, hr, hb1⟩
 rw [World.size_alloc] at hr hb1
 have k20 := Zb w1 (.cells #[.int .i64 kd, .string ⟨ks.toArray⟩, .int .i64 id, .int .i64 no, .int .i64 size, .slice LA ln lc, .slice BA bn bc] 33)
 have HR := hid (hr.grow k20)
 have HG1 := hid (show Grows w w1 from Grows.trans (Zb w (.cells #[.int .i64 0, .string ⟨#[]⟩, .int .i64 0, .int .i64 0, .int .i64 0, .slice none 0 0, .slice none 0 0] 33)) (show Grows (w.alloc (.cells #[.int .i64 0, .string ⟨#[]⟩, .int .i64 0, .int .i64 0, .int .i64 0, .slice none 0 0, .slice none 0 0] 33)) w1 from by unfold Grows; rw [World.size_alloc]; exact hb1))
 have HZ0 := hid ((show Grows (w.alloc (.cells #[.int .i64 0, .string ⟨#[]⟩, .int .i64 0, .int .i64 0, .int .i64 0, .slice none 0 0, .slice none 0 0] 33)) w1 from by unfold Grows; rw [World.size_alloc]; exact hb1).whole (Whole.made w 33 #[.int .i64 0, .string ⟨#[]⟩, .int .i64 0, .int .i64 0, .int .i64 0, .slice none 0 0, .slice none 0 0]))
 have hx8 := Whole.made w1 33 #[.int .i64 kd, .string ⟨ks.toArray⟩, .int .i64 id, .int .i64 no, .int .i64 size, .slice LA ln lc, .slice BA bn bc]
 obtain ⟨V, hV⟩ : ∃ V, w1.alloc (.cells #[.int .i64 kd, .string ⟨ks.toArray⟩, .int .i64 id, .int .i64 no, .int .i64 size, .slice LA ln lc, .slice BA bn bc] 33) = V := ⟨_, rfl⟩
 have HZV := hid (k20.whole HZ0.out)
 have HGV := hid (Grows.trans HG1.out k20)
 have HX8 := hid hx8
 rw [hV] at HX8 HR HZV HGV
 have HB8 := hid (HS.out.grow HGV.out)
 have hPL := hp
 obtain ⟨X, hX⟩ : ∃ X, b0 :: xs = X := ⟨_, rfl⟩
 rw [hX] at HB8 hp hPL
 have hpp : ∀ w', Grows V w' → Calls Tryz.prog 62 #[.agg #[.int .i64 kd, .string ⟨ks.toArray⟩, .int .i64 id, .int .i64 no, .int .i64 size, .slice LA ln lc, .slice BA bn bc]] w' fun e w'' => ∃ A m c, e = .returned (.slice A m c) ∧ Sl w'' A m c X ∧ Below w'.heap.size w' w'' := fun w' hg => (Zb9 ks kd id no size LA ln lc BA bn bc ls bs w' ((HR.out.inn).grow hg)).mono fun e w'' ⟨A', m', c', he, ho, hb⟩ => ⟨A', m', c', he, by rw [hPL] at ho; exact Sl.owned ho, hb⟩
 have HPY := hid hpp
 have yc0 : ∀ w', Grows V w' → w'.cell? ⟨w1.heap.size, 0, none⟩ = some (.int .i64 kd) := fun w' hg => (hg.whole HX8.out).cell 0
 have yc1 : ∀ w', Grows V w' → w'.cell? ⟨w1.heap.size, 1, none⟩ = some (.string ⟨ks.toArray⟩) := fun w' hg => (hg.whole HX8.out).cell 1
 have yc2 : ∀ w', Grows V w' → w'.cell? ⟨w1.heap.size, 2, none⟩ = some (.int .i64 id) := fun w' hg => (hg.whole HX8.out).cell 2
 have yc3 : ∀ w', Grows V w' → w'.cell? ⟨w1.heap.size, 3, none⟩ = some (.int .i64 no) := fun w' hg => (hg.whole HX8.out).cell 3
 have yc4 : ∀ w', Grows V w' → w'.cell? ⟨w1.heap.size, 4, none⟩ = some (.int .i64 size) := fun w' hg => (hg.whole HX8.out).cell 4
 have yc5 : ∀ w', Grows V w' → w'.cell? ⟨w1.heap.size, 5, none⟩ = some (.slice LA ln lc) := fun w' hg => (hg.whole HX8.out).cell 5
 have yc6 : ∀ w', Grows V w' → w'.cell? ⟨w1.heap.size, 6, none⟩ = some (.slice BA bn bc) := fun w' hg => (hg.whole HX8.out).cell 6
 clear hr hb1 k20 hx8 hp hPL hX hpp
 go_wp2_with (fail)
 try rw [hV]
 refine Zf (E := Grows) [Za (.agg #[.int .i64 kd, .string ⟨ks.toArray⟩, .int .i64 id, .int .i64 no, .int .i64 size, .slice LA ln lc, .slice BA bn bc]), Yv (X), Za (.string ⟨X.toArray⟩), Za (.slice (some ad) n c), Za (.string ⟨X.toArray⟩), Za (.bool false)] (by kernel_rfl) (by kernel_rfl) (fun _ _ _ => Grows.trans) (Ze _) ?_
 refine Y6 _ (by rfl) ?_ ?_
 ·intro w' hC _; go_simp
 simp only [Pu]
 refine f_new (X) 62 #[.agg #[.int .i64 kd, .string ⟨ks.toArray⟩, .int .i64 id, .int .i64 no, .int .i64 size, .slice LA ln lc, .slice BA bn bc]] (by rfl) (by intro w' hC; clear hC; go_simp) ?_ ?_
 ·intro w' hC _; exact (HPY.out w' hC)
 intro A20 c20
 simp only [Pu]
 refine Y6 _ (by rfl) ?_ ?_
 ·intro w' hC hk; exact Z2 rfl rfl (Known.get hk 0 rfl (by rfl))
 simp only [Pu]
 refine f_val _ (by rfl) ?_ ?_
 ·intro w' hC; clear hC; go_simp
 simp only [Pu]
 refine Y6 _ (by rfl) ?_ ?_
 ·intro w' hC _; exact Z2 rfl rfl (HB8.out.grow hC)
 simp only [Pu]
 refine f_val _ (by rfl) ?_ ?_
 ·intro w' hC; clear hC; go_simp
 simp only [Pu]
 intro w21 hC _
 have HCw21 := hid hC
 clear hC
 have HZ := hid (HCw21.out.whole HZV.out)
 have HG := hid (Grows.trans HGV.out HCw21.out)
 have hz := HZ.out
 have zc0 := hz.cell 0
 have zf0 := hz.free 0
 have zc1 := hz.cell 1
 have zf1 := hz.free 1
 have zc2 := hz.cell 2
 have zf2 := hz.free 2
 have zc3 := hz.cell 3
 have zf3 := hz.free 3
 have zc4 := hz.cell 4
 have zf4 := hz.free 4
 have zc5 := hz.cell 5
 have zf5 := hz.free 5
 have zc6 := hz.cell 6
 have zf6 := hz.free 6
 simp only [Gt] at zc0 zc1 zc2 zc3 zc4 zc5 zc6
 clear hz
 have y0 := yc0 w21 HCw21.out
 have y1 := yc1 w21 HCw21.out
 have y2 := yc2 w21 HCw21.out
 have y3 := yc3 w21 HCw21.out
 have y4 := yc4 w21 HCw21.out
 have y5 := yc5 w21 HCw21.out
 have y6 := yc6 w21 HCw21.out
 go_wp2_with (fail)
 obtain ⟨W, hW, hwh, hwt⟩ := Ya HZ.out (.int .i64 kd) (.string ⟨ks.toArray⟩) (.int .i64 id) (.int .i64 no) (.int .i64 size) (.slice LA ln lc) (.slice BA bn bc)
 rw [hW]
 have hbW := hwt.below (by have := HZ.out.lt; omega)
 clear hW
 refine bodyPost_ret (Zk rfl _ _ w.heap.size _ _ _ _ _ _ _ _ (.bool true) rfl rfl hwh) rfl ?_
 have q1 := HR.out.grow HCw21.out
 have q2 := q1.turn hwt (Nat.lt_succ_self _)
 have q3 := RcOwn.from (base := w.heap.size) q2 (Nat.le_succ _)
 exact ⟨LA, ln, lc, BA, bn, bc, rfl, q3, Below.trans HG.out hbW⟩

set_option maxRecDepth 100000 in
set_option maxHeartbeats 4000000 in
theorem Zld (ad : Addr) (n c : Nat) (b0 : UInt8) (xs : List UInt8) (w : World) (hs : Sl w (some ad) n c (b0 :: xs)) (hn : n ≤ 8192) (hp : putR (refP b0.toNat xs) ≠ b0 :: xs) :
 Calls Tryz.prog 66 #[.slice (some ad) n c] w fun e w' => ∃ LA ln lc BA bn bc, e = .returned (.tuple #[.agg #[.int .i64 (Rc.none).kind, .string ⟨(Rc.none).key.toArray⟩, .int .i64 (Rc.none).id, .int .i64 (Rc.none).no, .int .i64 (Rc.none).size, .slice LA ln lc, .slice BA bn bc], .bool false]) ∧ RcOwn w' w.heap.size LA ln lc BA bn bc (Rc.none) ∧ Below w.heap.size w w' := by
 obtain ⟨R, hR⟩ : ∃ R, refP b0.toNat xs = R := ⟨_, rfl⟩
 rw [hR] at hp
 obtain ⟨kd, ks, id, no, size, ls, bs⟩ := R
 try dsimp only
 have hlen := hs.len
 have hcap := hs.cap
 simp only [List.length_cons] at hlen
 have HRP := hid hR
 clear hR
 have hn1 : ¬ (n : Int) = 0 := by omega
 have hn2 : ¬ (8192 : Int) < (n : Int) := by omega
 have hn0 : ¬ n = 0 := by omega
 have HN := hid (And.intro hlen hn)
 have HS := hid hs
 clear hs hlen hn
 go_enter Tryz.func66, Tryz.ntmps66
 go_wp2_with (fail)
 have hget := Zeo ad n c b0 xs _ (HS.out.grow (Zb w (.cells #[.int .i64 0, .string ⟨#[]⟩, .int .i64 0, .int .i64 0, .int .i64 0, .slice none 0 0, .slice none 0 0] 33))) (by have := HN.out.2; omega)
 rw [HRP.out] at hget
 dsimp only at hget
 refine hget.mono ?_
 clear hget
 rintro e w1 ⟨LA, ln, lc, BA, bn, bc, rfl, hr, hb1⟩
 rw [World.size_alloc] at hr hb1
 have k20 := Zb w1 (.cells #[.int .i64 kd, .string ⟨ks.toArray⟩, .int .i64 id, .int .i64 no, .int .i64 size, .slice LA ln lc, .slice BA bn bc] 33)
 have HR := hid (hr.grow k20)
 have HG1 := hid (show Grows w w1 from Grows.trans (Zb w (.cells #[.int .i64 0, .string ⟨#[]⟩, .int .i64 0, .int .i64 0, .int .i64 0, .slice none 0 0, .slice none 0 0] 33)) (show Grows (w.alloc (.cells #[.int .i64 0, .string ⟨#[]⟩, .int .i64 0, .int .i64 0, .int .i64 0, .slice none 0 0, .slice none 0 0] 33)) w1 from by unfold Grows; rw [World.size_alloc]; exact hb1))
 have HZ0 := hid ((show Grows (w.alloc (.cells #[.int .i64 0, .string ⟨#[]⟩, .int .i64 0, .int .i64 0, .int .i64 0, .slice none 0 0, .slice none 0 0] 33)) w1 from by unfold Grows; rw [World.size_alloc]; exact hb1).whole (Whole.made w 33 #[.int .i64 0, .string ⟨#[]⟩, .int .i64 0, .int .i64 0, .int .i64 0, .slice none 0 0, .slice none 0 0]))
 have hx8 := Whole.made w1 33 #[.int .i64 kd, .string ⟨ks.toArray⟩, .int .i64 id, .int .i64 no, .int .i64 size, .slice LA ln lc, .slice BA bn bc]
 obtain ⟨V, hV⟩ : ∃ V, w1.alloc (.cells #[.int .i64 kd, .string ⟨ks.toArray⟩, .int .i64 id, .int .i64 no, .int .i64 size, .slice LA ln lc, .slice BA bn bc] 33) = V := ⟨_, rfl⟩
 have HZV := hid (k20.whole HZ0.out)
 have HGV := hid (Grows.trans HG1.out k20)
 have HX8 := hid hx8
 rw [hV] at HX8 HR HZV HGV
 have HB8 := hid (HS.out.grow HGV.out)
 obtain ⟨PL, hPL⟩ : ∃ L, putR (⟨kd, ks, id, no, size, ls, bs⟩ : Rc) = L := ⟨_, rfl⟩
 rw [hPL] at hp
 obtain ⟨X, hX⟩ : ∃ X, b0 :: xs = X := ⟨_, rfl⟩
 rw [hX] at HB8 hp
 have hpp : ∀ w', Grows V w' → Calls Tryz.prog 62 #[.agg #[.int .i64 kd, .string ⟨ks.toArray⟩, .int .i64 id, .int .i64 no, .int .i64 size, .slice LA ln lc, .slice BA bn bc]] w' fun e w'' => ∃ A m c, e = .returned (.slice A m c) ∧ Sl w'' A m c PL ∧ Below w'.heap.size w' w'' := fun w' hg => (Zb9 ks kd id no size LA ln lc BA bn bc ls bs w' ((HR.out.inn).grow hg)).mono fun e w'' ⟨A', m', c', he, ho, hb⟩ => ⟨A', m', c', he, by rw [hPL] at ho; exact Sl.owned ho, hb⟩
 have HPY := hid hpp
 have yc0 : ∀ w', Grows V w' → w'.cell? ⟨w1.heap.size, 0, none⟩ = some (.int .i64 kd) := fun w' hg => (hg.whole HX8.out).cell 0
 have yc1 : ∀ w', Grows V w' → w'.cell? ⟨w1.heap.size, 1, none⟩ = some (.string ⟨ks.toArray⟩) := fun w' hg => (hg.whole HX8.out).cell 1
 have yc2 : ∀ w', Grows V w' → w'.cell? ⟨w1.heap.size, 2, none⟩ = some (.int .i64 id) := fun w' hg => (hg.whole HX8.out).cell 2
 have yc3 : ∀ w', Grows V w' → w'.cell? ⟨w1.heap.size, 3, none⟩ = some (.int .i64 no) := fun w' hg => (hg.whole HX8.out).cell 3
 have yc4 : ∀ w', Grows V w' → w'.cell? ⟨w1.heap.size, 4, none⟩ = some (.int .i64 size) := fun w' hg => (hg.whole HX8.out).cell 4
 have yc5 : ∀ w', Grows V w' → w'.cell? ⟨w1.heap.size, 5, none⟩ = some (.slice LA ln lc) := fun w' hg => (hg.whole HX8.out).cell 5
 have yc6 : ∀ w', Grows V w' → w'.cell? ⟨w1.heap.size, 6, none⟩ = some (.slice BA bn bc) := fun w' hg => (hg.whole HX8.out).cell 6
 have HNE := hid hp
 clear hr hb1 k20 hx8 hp hPL hX hpp
 go_wp2_with (fail)
 try rw [hV]
 refine Zf (E := Grows) [Za (.agg #[.int .i64 kd, .string ⟨ks.toArray⟩, .int .i64 id, .int .i64 no, .int .i64 size, .slice LA ln lc, .slice BA bn bc]), Yv (PL), Za (.string ⟨PL.toArray⟩), Za (.slice (some ad) n c), Za (.string ⟨X.toArray⟩), Za (.bool true)] (by kernel_rfl) (by kernel_rfl) (fun _ _ _ => Grows.trans) (Ze _) ?_
 refine Y6 _ (by rfl) ?_ ?_
 ·intro w' hC _; go_simp
 simp only [Pu]
 refine f_new (PL) 62 #[.agg #[.int .i64 kd, .string ⟨ks.toArray⟩, .int .i64 id, .int .i64 no, .int .i64 size, .slice LA ln lc, .slice BA bn bc]] (by rfl) (by intro w' hC; clear hC; go_simp) ?_ ?_
 ·intro w' hC _; exact (HPY.out w' hC)
 intro A20 c20
 simp only [Pu]
 refine Y6 _ (by rfl) ?_ ?_
 ·intro w' hC hk; exact Z2 rfl rfl (Known.get hk 0 rfl (by rfl))
 simp only [Pu]
 refine f_val _ (by rfl) ?_ ?_
 ·intro w' hC; clear hC; go_simp
 simp only [Pu]
 refine Y6 _ (by rfl) ?_ ?_
 ·intro w' hC _; exact Z2 rfl rfl (HB8.out.grow hC)
 simp only [Pu]
 refine f_val _ (by rfl) ?_ ?_
 ·intro w' hC; clear hC; (go_simp; exact HNE.out)
 simp only [Pu]
 intro w21 hC _
 have HCw21 := hid hC
 clear hC
 have HZ := hid (HCw21.out.whole HZV.out)
 have HG := hid (Grows.trans HGV.out HCw21.out)
 have hz := HZ.out
 have zc0 := hz.cell 0
 have zf0 := hz.free 0
 have zc1 := hz.cell 1
 have zf1 := hz.free 1
 have zc2 := hz.cell 2
 have zf2 := hz.free 2
 have zc3 := hz.cell 3
 have zf3 := hz.free 3
 have zc4 := hz.cell 4
 have zf4 := hz.free 4
 have zc5 := hz.cell 5
 have zf5 := hz.free 5
 have zc6 := hz.cell 6
 have zf6 := hz.free 6
 simp only [Gt] at zc0 zc1 zc2 zc3 zc4 zc5 zc6
 clear hz
 go_wp2_with (fail)
 obtain ⟨W, hW, hwh, hwt⟩ := Ya HZ.out (.int .i64 0) (.string ⟨#[]⟩) (.int .i64 0) (.int .i64 0) (.int .i64 0) (.slice none 0 0) (.slice none 0 0)
 rw [hW]
 have hbW := hwt.below (by have := HZ.out.lt; omega)
 clear hW
 refine bodyPost_ret (Zk rfl _ _ w.heap.size _ _ _ _ _ _ _ _ (.bool false) rfl rfl hwh) rfl ?_
 exact ⟨none, 0, 0, none, 0, 0, rfl, RcOwn.nil _ _ _ _ _ _ _, Below.trans HG.out hbW⟩

theorem Zc1 (A : Option Addr) (n c : Nat) (bs : List UInt8) (w : World) (hs : Sl w A n c bs) :
 Calls Tryz.prog 66 #[.slice A n c] w fun e w' => ∃ LA ln lc BA bn bc, e = .returned (.tuple #[.agg #[.int .i64 ((getR bs).getD Rc.none).kind, .string ⟨((getR bs).getD Rc.none).key.toArray⟩, .int .i64 ((getR bs).getD Rc.none).id, .int .i64 ((getR bs).getD Rc.none).no, .int .i64 ((getR bs).getD Rc.none).size, .slice LA ln lc, .slice BA bn bc], .bool (getR bs).isSome]) ∧ RcOwn w' w.heap.size LA ln lc BA bn bc ((getR bs).getD Rc.none) ∧ Below w.heap.size w w' := by
 have hlen := hs.len
 match bs, hlen with
 | [], hlen =>
   obtain rfl : n = 0 := by simpa using hlen.symm
   exact Zh3 A c w
 | b0 :: xs, hlen =>
   simp only [List.length_cons] at hlen
   obtain ⟨ad, rfl, _, _⟩ := hs.bytes.spot (k := 0) (by omega)
   by_cases h8 : 8192 < n
   ·have hg : getR (b0 :: xs) = Option.none := by
     cases hq : getR (b0 :: xs) with
     | none => rfl
     | some y =>
       obtain ⟨h1, h2⟩ := Zi3 hq
       have := (Zj3 h1).2
       rw [h2] at this
       simp only [List.length_cons] at this
       omega
    rw [hg]
    exact Zi6 (some ad) n h8 c w
   ·have hg := Zqb b0 xs
    by_cases hp : putR (refP b0.toNat xs) = b0 :: xs
    ·rw [if_pos hp] at hg
     rw [hg]
     exact Zoa ad n c b0 xs w hs (by omega) hp
    ·rw [if_neg hp] at hg
     rw [hg]
     exact Zld ad n c b0 xs w hs (by omega) hp
end Go.Proofs.YtlldcogkcjnejaaGreat
