/-
  The walk of souterrainref04.get: a root's key, and nothing behind it.
-/
import Derived.Test.YtmfhpfehphbklaaRcRefGet3
namespace Go.Proofs.Ytmfhpfehphbklaa
open Go.RowKit
set_option linter.unusedSimpArgs false
set_option linter.unusedVariables false

set_option maxRecDepth 100000 in
set_option maxHeartbeats 4000000 in
theorem refGet_bare (ad : Addr) (n c : Nat) (b0 : UInt8) (xs : List UInt8) (w : World) (hs : Sl w (some ad) n c (b0 :: xs)) (hn : n ≤ 20000) (hk1 : b0.toNat ≠ 1) (hk4 : b0.toNat ≠ 4) (c0 : UInt8) (ys : List UInt8) (hx : xs = c0 :: ys) (hk3 : b0.toNat ≠ 3) (hl : ¬ ys.length < c0.toNat) (hsh : ys.length < c0.toNat + 11) :
    Calls Try.prog 42 #[.slice (some ad) n c] w fun e w' => ∃ LA ln lc BA bn bc, e = .returned (.agg #[.int .i64 (refP b0.toNat xs).kind, .string ⟨(refP b0.toNat xs).key.toArray⟩, .int .i64 (refP b0.toNat xs).id, .int .i64 (refP b0.toNat xs).no, .int .i64 (refP b0.toNat xs).size, .slice LA ln lc, .slice BA bn bc]) ∧ RcOwn w' w.heap.size LA ln lc BA bn bc (refP b0.toNat xs) ∧ Below w.heap.size w w' := by
  have hlen := hs.len
  have hcap := hs.cap
  simp only [List.length_cons] at hlen
  have hn0 : (0 : Int) < (n : Int) := by omega
  have hnn : 0 < n := by omega
  obtain ⟨_, e0, hab, hcell⟩ := hs.bytes.spot (k := 0) (by omega)
  injection e0 with e0
  subst e0
  simp only [List.getD_cons_zero, Addr.add_zero'] at hcell
  have hb0 := b0.toNat_lt
  have HS := Lib.hid hs
  clear hs
  have hk1i : ¬ (b0.toNat : Int) = 1 := by omega
  have hk4i : ¬ (b0.toNat : Int) = 4 := by omega
  subst hx
  simp only [List.length_cons] at hlen
  have hn2 : ¬ (n : Int) < 2 := by omega
  have hn1 : (1 : Int) < (n : Int) := by omega
  have hn1n : 1 < n := by omega
  obtain ⟨_, e1, hab1, hcell1⟩ := HS.out.bytes.spot (k := 1) (by omega)
  injection e1 with e1
  subst e1
  simp only [List.getD_cons_succ, List.getD_cons_zero, add_at] at hcell1
  have hc0 := c0.toNat_lt
  have hk3i : ¬ (b0.toNat : Int) = 3 := by omega
  obtain ⟨at0, hat⟩ : ∃ m, 2 + c0.toNat = m := ⟨_, rfl⟩
  have hwr : IntKind.i64.wrap (2 + (c0.toNat : Int)) = (at0 : Int) := by rw [IntWalk.i64_in _ (by omega)]; omega
  have hge : ¬ (n : Int) < (at0 : Int) := by omega
  have hle : (at0 : Int) ≤ (n : Int) := by omega
  have hlc : (at0 : Int) ≤ (c : Int) := by omega
  have h2a : (2 : Int) ≤ (at0 : Int) := by omega
  have hatn : at0 ≤ n := by omega
  have h2n : 2 ≤ at0 := by omega
  have q2 : (2 : Int) ≤ (c : Int) := by omega
  have hy : refP b0.toNat (c0 :: ys) = ⟨b0.toNat, ys.take c0.toNat, 0, 0, 0, [], []⟩ := by
    unfold refP
    rw [if_neg hk1i, if_neg hk4i]
    dsimp only
    rw [if_neg hl, if_neg hk3i, if_neg (by rw [List.length_drop]; omega)]
  rw [hy]
  dsimp only
  obtain ⟨ks, hks⟩ : ∃ ks, ys.take c0.toNat = ks := ⟨_, rfl⟩
  rw [hks]
  have p1 : ∀ w', Grows w w' → Sl w' (if c = 2 then some ad else some ⟨ad.block, ad.off + 2, none⟩) (at0 - 2) (c - 2) ks := fun w' hg => by
    by_cases h2c : c = 2
    · have h := Sl.first (k := at0 - 2) (Sl.behind (k := 2) (HS.out.grow hg) (by omega)) (by omega)
      rw [if_pos h2c] at h
      rw [if_pos h2c]
      rw [← hks]
      simpa [show at0 - 2 = c0.toNat by omega] using h
    · have h := Sl.part (k := 2) (m := at0) (HS.out.grow hg) (by omega) (by omega) h2c
      rw [if_neg h2c]
      rw [add_at, show at0 - 2 = c0.toNat by omega] at h
      rw [← hks, show at0 - 2 = c0.toNat by omega]
      simpa [← hat, show 2 + c0.toNat - 2 = c0.toNat by omega, show 2 + c0.toNat = c0.toNat + 1 + 1 by omega, List.take_succ_cons] using h
  have p2 : ∀ w', Grows w w' → Sl w' (if c = at0 then some ad else some ⟨ad.block, ad.off + at0, none⟩) (n - at0) (c - at0) (ys.drop c0.toNat) := fun w' hg => by
    have h := Sl.behind (k := at0) (HS.out.grow hg) (by omega)
    rw [show at0 = c0.toNat + 1 + 1 by omega] at *
    rw [add_at] at h
    simpa using h
  have hst := run_string (p1 ((w.alloc (.cells #[.int .i64 0, .string ⟨#[]⟩, .int .i64 0, .int .i64 0, .int .i64 0, .slice none 0 0, .slice none 0 0] 25)).alloc (.cells #[.int .i64 b0.toNat, .string ⟨#[]⟩, .int .i64 0, .int .i64 0, .int .i64 0, .slice none 0 0, .slice none 0 0] 25)) (Grows.trans (grows_alloc _ _) (grows_alloc _ _)))
  have hw11 : IntKind.i64.wrap ((at0 : Int) + 11) = (at0 : Int) + 11 := IntWalk.i64_in _ (by omega)
  have hn11 : ¬ (at0 : Int) + 11 ≤ (n : Int) := by omega
  have HL := Lib.hid (And.intro hlen (And.intro hat hl))
  clear hy p1 p2 hks hlen hat hl hsh
  by_cases h2c : c = 2
  · obtain rfl : at0 = 2 := by omega
    obtain rfl : n = 2 := by omega
    subst h2c
    simp only [if_true, Nat.sub_self] at hst
    clear hw11 hn11
    go_enter Try.func42, Try.ntmps42
    go_wp2
    refine bodyPost_ret (results_cell_row rfl _ _ w.heap.size _ _ (0, 0) _ rfl ((grows_alloc _ _).whole (Whole.made w 25 #[.int .i64 b0.toNat, .string ⟨ks.toArray⟩, .int .i64 0, .int .i64 0, .int .i64 0, .slice none 0 0, .slice none 0 0])) Try.underlying25 rfl (by kernel_rfl)) rfl ?_
    exact ⟨none, 0, 0, none, 0, 0, rfl, RcOwn.nil _ _ _ _ _ _ _, Grows.trans (grows_alloc _ _) (grows_alloc _ _)⟩
  · simp only [if_neg h2c] at hst
    go_enter Try.func42, Try.ntmps42
    go_wp2
    refine bodyPost_ret (results_cell_row rfl _ _ w.heap.size _ _ (0, 0) _ rfl ((grows_alloc _ _).whole (Whole.made w 25 #[.int .i64 b0.toNat, .string ⟨ks.toArray⟩, .int .i64 0, .int .i64 0, .int .i64 0, .slice none 0 0, .slice none 0 0])) Try.underlying25 rfl (by kernel_rfl)) rfl ?_
    exact ⟨none, 0, 0, none, 0, 0, rfl, RcOwn.nil _ _ _ _ _ _ _, Grows.trans (grows_alloc _ _) (grows_alloc _ _)⟩
end Go.Proofs.Ytmfhpfehphbklaa
