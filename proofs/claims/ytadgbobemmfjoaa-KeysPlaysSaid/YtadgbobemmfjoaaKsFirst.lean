/-
  keys.first: a row of keys sorted, and cut.
-/
import Derived.Test.YtadgbobemmfjoaaKsNew
import Derived.Test.YtadgbobemmfjoaaKsSort
import Derived.Lib.OwnBridge
namespace Go.Proofs.Ytadgbobemmfjoaa
open Go.RowKit Go.Sort
set_option linter.unusedVariables false
set_option linter.unusedSimpArgs false

def kS (k : List UInt8) : Value := .string ⟨k.toArray⟩
theorem kS_enc : kS = encStr := rfl
theorem kS_one (l : Ks) : ∀ u ∈ l.map kS, u.oneCell' = true := by
  intro u hu
  obtain ⟨b, _, rfl⟩ := List.mem_map.1 hu
  rfl
theorem infoS : (Try.prog.info? 9).map (fun i => (i.zero, i.size, i.bytes)) = some (some (.string ⟨#[]⟩), 1, 16) := by kernel_rfl
abbrev OwnS (w : World) (B : Nat) (A : Option Addr) (n c : Nat) (l : Ks) : Prop := w.ownsRow B 9 1 (.slice A n c) n (l.map kS)
theorem OwnS.len {w : World} {B : Nat} {A : Option Addr} {n c : Nat} {l : Ks} (h : OwnS w B A n c l) : l.length = n := by simpa using h.1
theorem OwnS.cap {w : World} {B : Nat} {A : Option Addr} {n c : Nat} {l : Ks} (h : OwnS w B A n c l) : n ≤ c := by
  rcases h.2 with ⟨h1, h2⟩ | ⟨g, cap, cur, h1, h2, h3, h4, _⟩
  · omega
  · injection h1 with _ _ h1; omega
/-- The first ones of a row of one's own are one's own. -/
theorem OwnS.first {w : World} {B : Nat} {A : Option Addr} {n c k : Nat} {l : Ks} (h : OwnS w B A n c l) (hk : k ≤ n) : OwnS w B A k c (l.take k) := by
  have hl := OwnS.len h
  rcases h.2 with ⟨h1, h2⟩ | ⟨g, cap, cur, h1, h2, h3, h4, h5, h6, h7⟩
  · injection h1 with e1 e2 e3
    subst e1 e3
    obtain rfl : k = 0 := by omega
    exact ⟨by simp, .inl ⟨rfl, rfl⟩⟩
  · injection h1 with e1 e2 e3
    subst e1 e3
    refine ⟨by simp; omega, .inr ⟨g, c, cur, rfl, h2, h3, by omega, h5, h6, ?_⟩⟩
    rw [List.map_take, ← h7, List.take_take, show min k (n * 1) = k * 1 by omega]
theorem ksort_own {B : Nat} {A : Option Addr} {n c : Nat} {l : Ks} (w : World) (ho : OwnS w B A n c l) (hn : n ≤ 1000000000) :
    Calls Try.prog 44 #[.slice A n c] w fun e w' => e = .returned (.tuple #[]) ∧ OwnS w' B A n c (srt l) ∧ Spares (fun k => (Value.slice A n c).ownBlock = some k) w w' := by
  have hl := OwnS.len ho
  by_cases hv : (Value.slice A n c) = .slice none 0 0
  · injection hv with e1 e2 e3
    subst e1 e2 e3
    have : l = [] := List.eq_nil_of_length_eq_zero hl
    subst this
    refine (slices_Sort_string_none none 0 w).mono ?_
    rintro e w' ⟨rfl, rfl⟩
    exact ⟨rfl, by rw [srt_id List.Pairwise.nil]; exact ho, Spares.refl _ _⟩
  · obtain ⟨g, cap, e1, h2, h3, h4, h5, h6, h7⟩ := Lib.holds_of_ownsRow (enc := encStr) (zs := l) ho hv
    injection e1 with e1 _ e3
    subst e1 e3
    subst hl
    refine (slices_Sort_string g 0 c l w h7 h3 (by omega)).mono ?_
    rintro e w' ⟨rfl, q, os, rfl⟩
    have h8 := Lib.ownsRow_putRow (enc := encStr) (q := q) (ys := srt l) ho (srt_len l) (Nat.le_refl _)
    rw [List.take_of_length_le (by rw [srt_len]; omega)] at h8
    have hpr : ∀ k, k ≠ g → (putRow encStr (Sort.ahead w q) g 0 (srt l).toArray).heap[k]? = w.heap[k]? := fun k hk => by
      simp [putRow, mapBlock, Sort.ahead, Array.getElem?_modify, Ne.symm hk]
    have hsz : (putRow encStr (Sort.ahead w q) g 0 (srt l).toArray).heap.size = w.heap.size := by simp [putRow, mapBlock, Sort.ahead]
    have hgr : ∀ k, k < w.heap.size → (grow (putRow encStr (Sort.ahead w q) g 0 (srt l).toArray) os).heap[k]? = (putRow encStr (Sort.ahead w q) g 0 (srt l).toArray).heap[k]? := fun k hk => by
      simp [grow, Array.getElem?_append, hsz, hk]
    refine ⟨rfl, ?_, ⟨rfl, rfl, rfl, by simp [grow, hsz], fun k hk hne => (hgr k hk).trans (hpr k fun e => hne (by subst e; rfl))⟩⟩
    refine owned_same3 h8 fun k hk => hgr k ?_
    have e : g = k := by simpa [Value.ownBlock] using hk
    omega
set_option maxHeartbeats 1000000 in
theorem kfirst_any {B : Nat} {A : Option Addr} {n c : Nat} {l : Ks} (m : Nat) (w : World) (ho : OwnS w B A n c l) (hn : n ≤ 1000000000) (hm : m ≤ 9223372036854775807) :
    Calls Try.prog 34 #[.slice A n c, .int .i64 (m : Nat)] w fun e w' => e = .returned (.slice A (min m n) c) ∧ OwnS w' B A (min m n) c (fm m l) ∧ Spares (fun k => (Value.slice A n c).ownBlock = some k) w w' := by
  have HS := Lib.hid (ksort_own w ho hn)
  have hcap := OwnS.cap ho
  have hlen := OwnS.len ho
  have HO := Lib.hid (And.intro hcap hlen)
  have k2 : (n : Int) ≤ (c : Int) := by omega
  have k3 : (0 : Int) ≤ (n : Int) := by omega
  have k4 : (0 : Int) ≤ (m : Int) := by omega
  have HE := Lib.hid (show (min (m : Int) (n : Int)).toNat = min m n from by omega)
  clear ho hcap hlen
  go_enter Try.func34, Try.ntmps34
  go_wp2_with (fail)
  refine HS.out.mono ?_
  rintro e w2 ⟨rfl, h1, h2⟩
  have H2 := Lib.hid (And.intro h1 h2)
  clear h1 h2
  go_wp2_with (fail)
  go_ret
  refine ⟨by show Ending.returned (.slice A _ c) = _; rw [HE.out], ?_, H2.out.2⟩
  have h1 := OwnS.first H2.out.1 (Nat.min_le_right m n)
  have h2 : (srt l).take (min m n) = fm m l := by
    unfold fm
    rcases Nat.le_total m n with h | h
    · rw [Nat.min_eq_left h]
    · rw [Nat.min_eq_right h, List.take_of_length_le (by rw [srt_len, HO.out.2]; omega), List.take_of_length_le (by rw [srt_len, HO.out.2]; omega)]
  rw [h2] at h1
  exact h1
end Go.Proofs.Ytadgbobemmfjoaa
