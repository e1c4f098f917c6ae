/-
  slices.SortFunc at api.Use, by the numbers; of uses of unlike numbers.
-/
import Derived.Test.YtlldcogkcjnejaaBkSum
import Derived.Test.YtlldcogkcjnejaaShelfUs
import Derived.Shelf.SlSortCmp.NoneTotal
import Derived.Lib.OwnBridge
import Derived.Lib.Hide
namespace Go.Proofs.Ytlldcogkcjnejaa
open Go.Shelf Go.RowKit Go.Lib Go.Sort
set_option linter.unusedSimpArgs false
set_option linter.unusedVariables false

/-- As cmp.Compare tells it. -/
def cfU (x y : Us) : Int := if x.seg < y.seg then -1 else if y.seg < x.seg then 1 else 0
theorem ltU_seg (x y : Us) : ltOf cfU x y = decide (x.seg < y.seg) := by
  show decide (cfU x y < 0) = _
  unfold cfU
  by_cases h : x.seg < y.seg
  · simp [h]
  · by_cases h2 : y.seg < x.seg <;> simp [h, h2]
theorem swoSeg : SWO (ltOf cfU) where
  irrefl x := by rw [ltU_seg]; simp
  trans x y z h1 h2 := by rw [ltU_seg] at *; simp at *; omega
  ntrans x y z h1 h2 := by rw [ltU_seg] at *; simp at *; omega
theorem nan_any (x : Int) (w : World) : Calls Try.prog 41 #[.int .i64 x] w fun e w' => e = .returned (.bool false) ∧ w' = w := by
  have hx : (x != x) = false := by simp
  go_enter Try.func41, Try.ntmps41
  go_wp2_with (fail)
  go_ret
  simp
set_option maxHeartbeats 1000000 in
theorem compare_any (x y : Int) (w : World) : Calls Try.prog 34 #[.int .i64 x, .int .i64 y] w fun e w' => e = .returned (.int .i64 (if x < y then -1 else if y < x then 1 else 0)) ∧ w' = w := by
  by_cases h1 : x < y
  · rw [if_pos h1]
    go_enter Try.func34, Try.ntmps34
    go_wp2_with (first | (go_at_call 41; refine (nan_any _ _).mono ?_; rintro e w' ⟨rfl, rfl⟩) | fail)
    go_ret
    exact ⟨rfl, rfl⟩
  · rw [if_neg h1]
    by_cases h2 : y < x
    · rw [if_pos h2]
      go_enter Try.func34, Try.ntmps34
      go_wp2_with (first | (go_at_call 41; refine (nan_any _ _).mono ?_; rintro e w' ⟨rfl, rfl⟩) | fail)
      go_ret
      exact ⟨rfl, rfl⟩
    · rw [if_neg h2]
      go_enter Try.func34, Try.ntmps34
      go_wp2_with (first | (go_at_call 41; refine (nan_any _ _).mono ?_; rintro e w' ⟨rfl, rfl⟩) | fail)
      go_ret
      exact ⟨rfl, rfl⟩
set_option maxHeartbeats 1000000 in
theorem closure_us (x y : Us) (W : World) : Calls Try.prog 33 #[usV x, usV y] W fun e w' => e = .returned (.int .i64 (cfU x y)) ∧ ∃ q os', w' = grow (W.drewN q) os' := by
  obtain ⟨x0, x1, x2⟩ := x
  obtain ⟨y0, y1, y2⟩ := y
  show Calls _ _ #[.agg #[.int .i64 x0, .int .i64 x1, .int .i64 x2], .agg #[.int .i64 y0, .int .i64 y1, .int .i64 y2]] _ _
  obtain ⟨r, hr⟩ : ∃ r, cfU ⟨x0, x1, x2⟩ ⟨y0, y1, y2⟩ = r := ⟨_, rfl⟩
  have hcon : ∀ W', Calls Try.prog 34 #[.int .i64 x0, .int .i64 y0] W' fun e w' => e = .returned (.int .i64 r) ∧ w' = W' := fun W' => by
    rw [← hr]
    exact compare_any x0 y0 W'
  rw [hr]
  have HC := Go.Lib.hid hcon
  clear hcon hr
  go_enter Try.func33, Try.ntmps33
  go_wp2_with (fail)
  refine (HC.out _).mono ?_
  rintro e w' ⟨rfl, rfl⟩
  go_wp2_with (fail)
  go_ret
  exact ⟨rfl, 0, _, by rw [alloc_eq_grow, alloc_eq_grow, grow_grow]; rfl⟩
theorem flatK_us (l : List Us) : flatK usE 3 l.toArray = (l.flatMap usE).toArray := by
  have hl : (l.flatMap usE).length = l.length * 3 := flat_length usL l
  refine ext_get! (by simp [hl]) fun t ht => ?_
  have ht' : t < l.length * 3 := by simpa using ht
  rw [get_flatK _ _ _ t (by simpa using ht')]
  have hq : t / 3 < l.length := by omega
  have h1 := flat_get usL l (t / 3) (t % 3) l[t / 3] (List.getElem?_eq_getElem hq) (by omega)
  rw [show t / 3 * 3 + t % 3 = t by omega] at h1
  have h2 : t % 3 < (usE l[t / 3]).length := by rw [usL]; omega
  rw [getElem!_pos (l.flatMap usE).toArray t (by simp [hl]; omega)]
  have h3 : (l.flatMap usE)[t]'(by omega) = (usE l[t / 3])[t % 3] := by
    have h4 : (l.flatMap usE)[t]? = some (usE l[t / 3])[t % 3] := by rw [h1, List.getElem?_eq_getElem h2]
    rw [List.getElem?_eq_getElem (by omega)] at h4
    exact Option.some.inj h4
  rw [getElem!_pos l.toArray (t / 3) (by simpa using hq), List.getElem_toArray, List.getElem_toArray, h3]
  exact getElem!_pos (usE l[t / 3]) (t % 3) h2
theorem holds_us {w : World} {base : Nat} {e : TypeId} {g n cap : Nat} {l : List Us} (h : w.ownsRow base e 3 (.slice (some ⟨g, 0, none⟩) n cap) n (l.flatMap usE)) : HoldsK usE 3 w g 0 l.toArray := by
  unfold HoldsK
  rw [flatK_us]
  intro j hj
  have hj' : j < (l.flatMap usE).length := by simpa using hj
  rw [Nat.zero_add]
  have h1 := h.cells (g := g) rfl j _ (List.getElem?_eq_getElem hj')
  rw [show (⟨g, 0, none⟩ : Addr).add j = ⟨g, j, none⟩ by unfold Addr.add; split <;> simp_all] at h1
  refine ⟨?_, ?_⟩
  · rw [h1, getElem!_pos (l.flatMap usE).toArray j (by simpa using hj')]
    simp
  · rcases h.2 with ⟨e0, _⟩ | ⟨g', cap', cur, e0, hb, hg, _⟩
    · cases e0
    · injection e0 with e1 _ e3
      injection e1 with e1
      injection e1 with e1
      subst e1
      simp [World.frozen?, hg]
theorem perm_us {d d' : Array Us} (h : PermIn 0 d.size d d') : d'.toList.Perm d.toList := by
  have h2 := h.2.2
  have h1 := h.1
  rw [Array.extract_eq_self_of_le (Nat.le_refl _), Array.extract_eq_self_of_le (by omega)] at h2
  exact h2
theorem sorted_us {d : Array Us} (h : SortedIn (ltOf cfU) 0 d.size d) : d.toList.Pairwise fun x y => decide (y.seg < x.seg) = false := by
  rw [List.pairwise_iff_getElem]
  intro i j hi hj hij
  have hi' : i < d.size := by simpa using hi
  have hj' : j < d.size := by simpa using hj
  have h1 := h i j (Nat.zero_le _) hij hj'
  rw [ltU_seg, getElem!_pos d j hj', getElem!_pos d i hi'] at h1
  simpa using h1
theorem aggUs : ∀ w, (isAgg 34).run Try.prog w = .ok true w := fun w => by kernel_rfl
theorem sizeUs : ∀ w, (Go.sizeOf 34).run Try.prog w = .ok 3 w := fun w => by kernel_rfl
theorem usort_any (base : Nat) (A : Option Addr) (n c : Nat) (l : List Us) (w : World) (ho : w.ownsRow base 34 3 (.slice A n c) n (l.flatMap usE)) (hn : n < 4611686018427387904) :
    Calls Try.prog 39 #[.slice A n c, .func (.func 33) #[] #[]] w fun e w' => e = .returned (.tuple #[]) ∧
      ∃ l' : List Us, l'.Perm l ∧ (l'.Pairwise fun x y => decide (y.seg < x.seg) = false) ∧ w'.ownsRow base 34 3 (.slice A n c) n (l'.flatMap usE) ∧ (∀ B, B ≤ base → Below B w w') := by
  have hlen : l.length = n := by
    have h1 := ho.1
    rw [flat_length usL] at h1
    omega
  rcases ho.2 with ⟨e0, h0⟩ | ⟨g, cap, cur, e0, hb, hg, hr⟩
  · injection e0 with e1 e2 e3
    subst e1 e2 e3
    refine (AnyF.slices_SortFunc_none sortUs none 0 _ w).mono ?_
    rintro e w' ⟨rfl, rfl⟩
    refine ⟨rfl, l, List.Perm.refl _, ?_, ho, fun B _ => Below.refl _ _⟩
    have : l = [] := List.eq_nil_of_length_eq_zero (by omega)
    subst this
    exact List.Pairwise.nil
  · injection e0 with e1 e2 e3
    subst e1 e3
    subst hlen
    have hH := holds_us ho
    have hlt : g < w.heap.size := (Array.getElem?_eq_some_iff.1 hg).1
    have hcon := AnyQ.slices_SortFunc sortUs 3 aggUs sizeUs usE usL usE_one cfU swoSeg 33 #[] g 0 c l.toArray w (enters_of Try.func33 (by kernel_rfl) rfl) (fun _ _ _ _ x y => closure_us x y _) hH hlt (by simpa using hn)
    refine hcon.mono ?_
    rintro e w' ⟨rfl, d', m, os, hp, hs, rfl⟩
    have hp' := perm_us hp
    have hsz : d'.size = l.length := by have := hp.1; simpa using this
    have hs' := sorted_us (d := d') (by rw [hsz]; simpa using hs)
    refine ⟨rfl, d'.toList, by simpa using hp', hs', ?_, fun B hB => ?_⟩
    · unfold sortWorldK putRowK
      have hf := flatK_us d'.toList
      rw [Array.toArray_toList] at hf
      rw [hf]
      exact owned_grow (own_putRow ho (by rw [flat_length usL, flat_length usL]; simp [hsz])) (grows_grow _ _)
    · unfold sortWorldK putRowK
      exact Below.trans (Lib.below_putRow (Below.refl B w) (Nat.le_trans hB hb)) ((grows_grow _ _).mono (by simp [putRow, mapBlock, Sort.ahead]; omega))
end Go.Proofs.Ytlldcogkcjnejaa
