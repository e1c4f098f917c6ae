/-
  The walk of souterrainref04.get: the kinds that make no places.
-/
import Derived.Test.YtmfhpfehphbklaaRcRefGet
namespace Go.Proofs.Ytmfhpfehphbklaa
open Go.RowKit
set_option linter.unusedSimpArgs false
set_option linter.unusedVariables false

set_option maxRecDepth 100000 in
set_option maxHeartbeats 4000000 in
theorem refGet_short (ad : Addr) (n c : Nat) (b0 : UInt8) (xs : List UInt8) (w : World) (hs : Sl w (some ad) n c (b0 :: xs)) (hn : n ≤ 20000) (hk : b0.toNat = 1) (h9 : n < 9) :
    Calls Try.prog 42 #[.slice (some ad) n c] w fun e w' => ∃ LA ln lc BA bn bc, e = .returned (.agg #[.int .i64 (refP b0.toNat xs).kind, .string ⟨(refP b0.toNat xs).key.toArray⟩, .int .i64 (refP b0.toNat xs).id, .int .i64 (refP b0.toNat xs).no, .int .i64 (refP b0.toNat xs).size, .slice LA ln lc, .slice BA bn bc]) ∧ RcOwn w' w.heap.size LA ln lc BA bn bc (refP b0.toNat xs) ∧ Below w.heap.size w w' := by
  have hlen := hs.len
  have hcap := hs.cap
  simp only [List.length_cons] at hlen
  have hn0 : (0 : Int) < (n : Int) := by omega
  have hnn : 0 < n := by omega
  obtain ⟨_, e0, hab, hcell⟩ := hs.bytes.spot (k := 0) (by omega)
  injection e0 with e0
  subst e0
  simp only [List.getD_cons_zero, Addr.add_zero'] at hcell
  have hb0 := b0.toNat_lt
  have HS := Lib.hid hs
  clear hs
  have hk1 : (b0.toNat : Int) = 1 := by omega
  have h9i : ¬ (9 : Int) ≤ (n : Int) := by omega
  have hy : refP b0.toNat xs = ⟨1, [], 0, 0, 0, [], []⟩ := by
    unfold refP
    rw [if_pos hk1, if_neg (by omega)]
  rw [hy]
  dsimp only
  clear hy
  go_enter Try.func42, Try.ntmps42
  go_wp2
  refine bodyPost_ret (results_cell_row rfl _ _ w.heap.size _ _ (0, 0) _ rfl ((grows_alloc _ _).whole (Whole.made w 25 #[.int .i64 1, .string ⟨#[]⟩, .int .i64 0, .int .i64 0, .int .i64 0, .slice none 0 0, .slice none 0 0])) Try.underlying25 rfl (by kernel_rfl)) rfl ?_
  exact ⟨none, 0, 0, none, 0, 0, rfl, RcOwn.nil _ _ _ _ _ _ _, Grows.trans (grows_alloc _ _) (grows_alloc _ _)⟩

set_option maxRecDepth 100000 in
set_option maxHeartbeats 4000000 in
theorem refGet_tomb (ad : Addr) (n c : Nat) (b0 : UInt8) (xs : List UInt8) (w : World) (hs : Sl w (some ad) n c (b0 :: xs)) (hn : n ≤ 20000) (hk : b0.toNat = 4) :
    Calls Try.prog 42 #[.slice (some ad) n c] w fun e w' => ∃ LA ln lc BA bn bc, e = .returned (.agg #[.int .i64 (refP b0.toNat xs).kind, .string ⟨(refP b0.toNat xs).key.toArray⟩, .int .i64 (refP b0.toNat xs).id, .int .i64 (refP b0.toNat xs).no, .int .i64 (refP b0.toNat xs).size, .slice LA ln lc, .slice BA bn bc]) ∧ RcOwn w' w.heap.size LA ln lc BA bn bc (refP b0.toNat xs) ∧ Below w.heap.size w w' := by
  have hlen := hs.len
  have hcap := hs.cap
  simp only [List.length_cons] at hlen
  have hn0 : (0 : Int) < (n : Int) := by omega
  have hnn : 0 < n := by omega
  obtain ⟨_, e0, hab, hcell⟩ := hs.bytes.spot (k := 0) (by omega)
  injection e0 with e0
  subst e0
  simp only [List.getD_cons_zero, Addr.add_zero'] at hcell
  have hb0 := b0.toNat_lt
  have HS := Lib.hid hs
  clear hs
  have hk4 : (b0.toNat : Int) = 4 := by omega
  have hy : refP b0.toNat xs = ⟨4, xs, 0, 0, 0, [], []⟩ := by
    unfold refP
    rw [if_neg (by omega), if_pos hk4]
  rw [hy]
  dsimp only
  have q1 : (1 : Int) ≤ (c : Int) := by omega
  have q1n : (1 : Int) ≤ (n : Int) := by omega
  have p1 : ∀ w', Grows w w' → Sl w' (if c = 1 then some ad else some ⟨ad.block, ad.off + 1, none⟩) (n - 1) (c - 1) xs := fun w' hg => by
    have h := Sl.behind (k := 1) (HS.out.grow hg) (by omega)
    rw [add_at] at h
    simpa using h
  have hst := run_string (p1 ((w.alloc (.cells #[.int .i64 0, .string ⟨#[]⟩, .int .i64 0, .int .i64 0, .int .i64 0, .slice none 0 0, .slice none 0 0] 25)).alloc (.cells #[.int .i64 4, .string ⟨#[]⟩, .int .i64 0, .int .i64 0, .int .i64 0, .slice none 0 0, .slice none 0 0] 25)) (Grows.trans (grows_alloc _ _) (grows_alloc _ _)))
  clear hy p1
  by_cases h1c : c = 1
  · simp only [if_pos h1c] at hst
    subst h1c
    have hn1 : n = 1 := by omega
    subst hn1
    go_enter Try.func42, Try.ntmps42
    go_wp2
    refine bodyPost_ret (results_cell_row rfl _ _ w.heap.size _ _ (0, 0) _ rfl ((grows_alloc _ _).whole (Whole.made w 25 #[.int .i64 4, .string ⟨xs.toArray⟩, .int .i64 0, .int .i64 0, .int .i64 0, .slice none 0 0, .slice none 0 0])) Try.underlying25 rfl (by kernel_rfl)) rfl ?_
    exact ⟨none, 0, 0, none, 0, 0, rfl, RcOwn.nil _ _ _ _ _ _ _, Grows.trans (grows_alloc _ _) (grows_alloc _ _)⟩
  · simp only [if_neg h1c] at hst
    go_enter Try.func42, Try.ntmps42
    go_wp2
    refine bodyPost_ret (results_cell_row rfl _ _ w.heap.size _ _ (0, 0) _ rfl ((grows_alloc _ _).whole (Whole.made w 25 #[.int .i64 4, .string ⟨xs.toArray⟩, .int .i64 0, .int .i64 0, .int .i64 0, .slice none 0 0, .slice none 0 0])) Try.underlying25 rfl (by kernel_rfl)) rfl ?_
    exact ⟨none, 0, 0, none, 0, 0, rfl, RcOwn.nil _ _ _ _ _ _ _, Grows.trans (grows_alloc _ _) (grows_alloc _ _)⟩

set_option maxRecDepth 100000 in
set_option maxHeartbeats 4000000 in
theorem refGet_one (ad : Addr) (n c : Nat) (b0 : UInt8) (xs : List UInt8) (w : World) (hs : Sl w (some ad) n c (b0 :: xs)) (hn : n ≤ 20000) (hk1 : b0.toNat ≠ 1) (hk4 : b0.toNat ≠ 4) (hx : xs = []) :
    Calls Try.prog 42 #[.slice (some ad) n c] w fun e w' => ∃ LA ln lc BA bn bc, e = .returned (.agg #[.int .i64 (refP b0.toNat xs).kind, .string ⟨(refP b0.toNat xs).key.toArray⟩, .int .i64 (refP b0.toNat xs).id, .int .i64 (refP b0.toNat xs).no, .int .i64 (refP b0.toNat xs).size, .slice LA ln lc, .slice BA bn bc]) ∧ RcOwn w' w.heap.size LA ln lc BA bn bc (refP b0.toNat xs) ∧ Below w.heap.size w w' := by
  have hlen := hs.len
  have hcap := hs.cap
  simp only [List.length_cons] at hlen
  have hn0 : (0 : Int) < (n : Int) := by omega
  have hnn : 0 < n := by omega
  obtain ⟨_, e0, hab, hcell⟩ := hs.bytes.spot (k := 0) (by omega)
  injection e0 with e0
  subst e0
  simp only [List.getD_cons_zero, Addr.add_zero'] at hcell
  have hb0 := b0.toNat_lt
  have HS := Lib.hid hs
  clear hs
  have hk1i : ¬ (b0.toNat : Int) = 1 := by omega
  have hk4i : ¬ (b0.toNat : Int) = 4 := by omega
  subst hx
  simp only [List.length_nil] at hlen
  obtain rfl : n = 1 := by omega
  clear hlen
  have hy : refP b0.toNat [] = ⟨b0.toNat, [], 0, 0, 0, [], []⟩ := by
    unfold refP
    rw [if_neg hk1i, if_neg hk4i]
  rw [hy]
  dsimp only
  clear hy
  go_enter Try.func42, Try.ntmps42
  go_wp2
  refine bodyPost_ret (results_cell_row rfl _ _ w.heap.size _ _ (0, 0) _ rfl ((grows_alloc _ _).whole (Whole.made w 25 #[.int .i64 b0.toNat, .string ⟨#[]⟩, .int .i64 0, .int .i64 0, .int .i64 0, .slice none 0 0, .slice none 0 0])) Try.underlying25 rfl (by kernel_rfl)) rfl ?_
  exact ⟨none, 0, 0, none, 0, 0, rfl, RcOwn.nil _ _ _ _ _ _ _, Grows.trans (grows_alloc _ _) (grows_alloc _ _)⟩

set_option maxRecDepth 100000 in
set_option maxHeartbeats 4000000 in
theorem refGet_cut (ad : Addr) (n c : Nat) (b0 : UInt8) (xs : List UInt8) (w : World) (hs : Sl w (some ad) n c (b0 :: xs)) (hn : n ≤ 20000) (hk1 : b0.toNat ≠ 1) (hk4 : b0.toNat ≠ 4) (c0 : UInt8) (ys : List UInt8) (hx : xs = c0 :: ys) (hl : ys.length < c0.toNat) :
    Calls Try.prog 42 #[.slice (some ad) n c] w fun e w' => ∃ LA ln lc BA bn bc, e = .returned (.agg #[.int .i64 (refP b0.toNat xs).kind, .string ⟨(refP b0.toNat xs).key.toArray⟩, .int .i64 (refP b0.toNat xs).id, .int .i64 (refP b0.toNat xs).no, .int .i64 (refP b0.toNat xs).size, .slice LA ln lc, .slice BA bn bc]) ∧ RcOwn w' w.heap.size LA ln lc BA bn bc (refP b0.toNat xs) ∧ Below w.heap.size w w' := by
  have hlen := hs.len
  have hcap := hs.cap
  simp only [List.length_cons] at hlen
  have hn0 : (0 : Int) < (n : Int) := by omega
  have hnn : 0 < n := by omega
  obtain ⟨_, e0, hab, hcell⟩ := hs.bytes.spot (k := 0) (by omega)
  injection e0 with e0
  subst e0
  simp only [List.getD_cons_zero, Addr.add_zero'] at hcell
  have hb0 := b0.toNat_lt
  have HS := Lib.hid hs
  clear hs
  have hk1i : ¬ (b0.toNat : Int) = 1 := by omega
  have hk4i : ¬ (b0.toNat : Int) = 4 := by omega
  subst hx
  simp only [List.length_cons] at hlen
  have hn2 : ¬ (n : Int) < 2 := by omega
  have hn1 : (1 : Int) < (n : Int) := by omega
  have hn1n : 1 < n := by omega
  obtain ⟨_, e1, hab1, hcell1⟩ := HS.out.bytes.spot (k := 1) (by omega)
  injection e1 with e1
  subst e1
  simp only [List.getD_cons_succ, List.getD_cons_zero, add_at] at hcell1
  have hc0 := c0.toNat_lt
  have hlt : (n : Int) < 2 + (c0.toNat : Int) := by omega
  have hy : refP b0.toNat (c0 :: ys) = ⟨b0.toNat, [], 0, 0, 0, [], []⟩ := by
    unfold refP
    rw [if_neg hk1i, if_neg hk4i]
    dsimp only
    rw [if_pos hl]
  rw [hy]
  dsimp only
  clear hy
  have hwr : IntKind.i64.wrap (2 + (c0.toNat : Int)) = 2 + (c0.toNat : Int) := IntWalk.i64_in _ (by omega)
  go_enter Try.func42, Try.ntmps42
  go_wp2
  refine bodyPost_ret (results_cell_row rfl _ _ w.heap.size _ _ (0, 0) _ rfl ((grows_alloc _ _).whole (Whole.made w 25 #[.int .i64 b0.toNat, .string ⟨#[]⟩, .int .i64 0, .int .i64 0, .int .i64 0, .slice none 0 0, .slice none 0 0])) Try.underlying25 rfl (by kernel_rfl)) rfl ?_
  exact ⟨none, 0, 0, none, 0, 0, rfl, RcOwn.nil _ _ _ _ _ _ _, Grows.trans (grows_alloc _ _) (grows_alloc _ _)⟩
end Go.Proofs.Ytmfhpfehphbklaa
