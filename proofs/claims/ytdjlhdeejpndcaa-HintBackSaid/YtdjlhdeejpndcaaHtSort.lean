/-
  slices.SortFunc at api.Hint, by the keys; of hints of unlike keys.
-/
import Derived.Test.YtdjlhdeejpndcaaHtMem
import Derived.Test.YtdjlhdeejpndcaaShelf
import Derived.Test.YtdjlhdeejpndcaaShelfHt
import Derived.Shelf.SlSortCmp.NoneTotal
import Derived.Lib.OwnBridge
import Derived.Lib.Hide
namespace Go.Proofs.Ytdjlhdeejpndcaa
open Go.Shelf Go.RowKit Go.Lib Go.Sort
set_option linter.unusedSimpArgs false
set_option linter.unusedVariables false

instance : Inhabited Ht := ⟨Ht.none⟩
theorem cmp_before : ∀ a b : List UInt8, decide (Lib.compareBytes a b < 0) = bytesBefore a b
  | [], [] => rfl
  | [], _ :: _ => rfl
  | _ :: _, [] => rfl
  | x :: r, y :: s => by
    have ih := cmp_before r s
    unfold Lib.compareBytes
    by_cases h1 : x < y
    · have h1' : x.toNat < y.toNat := h1
      simp [h1, bytesBefore]
    · have h1' : ¬ x.toNat < y.toNat := h1
      by_cases h2 : y < x
      · have hne : ¬ x = y := fun e => by subst e; exact h1 h2
        simp [h1, h2, bytesBefore, hne]
      · have h2' : ¬ y.toNat < x.toNat := h2
        have he : x = y := UInt8.toNat_inj.1 (by omega)
        subst he
        simp only [h1, if_false, ih]
        simp [bytesBefore, h1]
def cfH (x y : Ht) : Int := Lib.compareBytes x.key y.key
theorem ltH (x y : Ht) : ltOf cfH x y = bytesBefore x.key y.key := cmp_before _ _
theorem swoH : SWO (ltOf cfH) where
  irrefl x := by rw [ltH]; exact bef_irrefl _
  trans x y z h1 h2 := by rw [ltH] at *; exact bef_trans h1 h2
  ntrans x y z h1 h2 := by
    rw [ltH] at *
    rcases h : bytesBefore x.key z.key with _ | _
    · rfl
    · exfalso
      by_cases e : x.key = y.key
      · rw [← e, h] at h2; cases h2
      · have h3 := bef_trans (bef_total h1 e) h
        rw [h3] at h2
        cases h2
set_option maxHeartbeats 1000000 in
theorem closure_any (x y : Ht) (W : World) : Calls Try.prog 28 #[htV x, htV y] W fun e w' => e = .returned (.int .i64 (cfH x y)) ∧ ∃ q os', w' = grow (W.drewN q) os' := by
  obtain ⟨xk, xs, xa, xz⟩ := x
  obtain ⟨yk, ys, ya, yz⟩ := y
  show Calls _ _ #[.agg #[.int .i64 xk, .string ⟨xs.toArray⟩, .int .i64 xa, .int .i64 xz], .agg #[.int .i64 yk, .string ⟨ys.toArray⟩, .int .i64 ya, .int .i64 yz]] _ _
  have hcon := fun W' => strings_Compare ⟨xs.toArray⟩ ⟨ys.toArray⟩ W'
  obtain ⟨r, hr⟩ : ∃ r, cfH ⟨xk, xs, xa, xz⟩ ⟨yk, ys, ya, yz⟩ = r := ⟨_, rfl⟩
  have hcon' : ∀ W', Calls Try.prog 29 #[.string ⟨xs.toArray⟩, .string ⟨ys.toArray⟩] W' fun e w' => e = .returned (.int .i64 r) ∧ w' = W' := fun W' => by
    rw [← hr]
    exact hcon W'
  rw [hr]
  have HC := Go.Lib.hid hcon'
  clear hcon hcon' hr
  go_enter Try.func28, Try.ntmps28
  go_wp2_with (fail)
  refine (HC.out _).mono ?_
  rintro e w' ⟨rfl, rfl⟩
  go_wp2_with (fail)
  go_ret
  exact ⟨rfl, 0, _, by rw [alloc_eq_grow, alloc_eq_grow, grow_grow]; rfl⟩
theorem flatK_list (l : List Ht) : flatK htE 4 l.toArray = (l.flatMap htE).toArray := by
  have hl : (l.flatMap htE).length = l.length * 4 := flat_length htL l
  refine ext_get! (by simp [hl]) fun t ht => ?_
  have ht' : t < l.length * 4 := by simpa using ht
  rw [get_flatK _ _ _ t (by simpa using ht')]
  have hq : t / 4 < l.length := by omega
  have h1 := flat_get htL l (t / 4) (t % 4) l[t / 4] (List.getElem?_eq_getElem hq) (by omega)
  rw [show t / 4 * 4 + t % 4 = t by omega] at h1
  have h2 : t % 4 < (htE l[t / 4]).length := by rw [htL]; omega
  rw [getElem!_pos (l.flatMap htE).toArray t (by simp [hl]; omega)]
  have h3 : (l.flatMap htE)[t]'(by omega) = (htE l[t / 4])[t % 4] := by
    have h4 : (l.flatMap htE)[t]? = some (htE l[t / 4])[t % 4] := by rw [h1, List.getElem?_eq_getElem h2]
    rw [List.getElem?_eq_getElem (by omega)] at h4
    exact Option.some.inj h4
  rw [getElem!_pos l.toArray (t / 4) (by simpa using hq), List.getElem_toArray, List.getElem_toArray, h3]
  exact getElem!_pos (htE l[t / 4]) (t % 4) h2
theorem own_putRow {w : World} {base : Nat} {e : TypeId} {g n cap q k : Nat} {xs ys : List Value} (h : w.ownsRow base e k (.slice (some ⟨g, 0, none⟩) n cap) n xs) (hy : ys.length = xs.length) :
    (putRow id (Sort.ahead w q) g 0 ys.toArray).ownsRow base e k (.slice (some ⟨g, 0, none⟩) n cap) n ys := by
  have hx := h.1
  rcases h.2 with ⟨e0, _⟩ | ⟨g', cap', cur, e0, hb, hg, hn, hm, hs, ht⟩
  · cases e0
  · injection e0 with e1 _ e3
    injection e1 with e1
    injection e1 with e1
    subst e1; subst e3
    refine ⟨by omega, .inr ⟨g, cap, putCells id 0 ys.toArray cur, rfl, hb, ?_, hn, hm, by simpa [putCells] using hs, ?_⟩⟩
    · simp [putRow, mapBlock, Sort.ahead, Array.getElem?_modify, hg, onCells]
    · have hnk : n * k ≤ cap * k := Nat.mul_le_mul_right k hn
      apply List.ext_getElem?
      intro j
      rw [List.getElem?_take, Array.getElem?_toList]
      by_cases hj : j < n * k
      · have hjc : j < cur.size := by omega
        simp only [if_pos hj, putCells, Array.getElem?_mapIdx, Array.getElem?_eq_getElem hjc, Option.map_some]
        rw [if_pos (by simp; omega), List.getElem?_eq_getElem (by omega)]
        simp [getElem!_pos, show j < ys.length by omega]
      · rw [if_neg hj, List.getElem?_eq_none (by omega)]
theorem grows_grow (w : World) (os : Array Obj) : Grows w (grow w os) := ⟨rfl, rfl, rfl, by simp [grow], fun k hk => by simp [grow, Array.getElem?_append, hk]⟩
theorem holds_own {w : World} {base : Nat} {e : TypeId} {g n cap : Nat} {l : List Ht} (h : w.ownsRow base e 4 (.slice (some ⟨g, 0, none⟩) n cap) n (l.flatMap htE)) : HoldsK htE 4 w g 0 l.toArray := by
  unfold HoldsK
  rw [flatK_list]
  intro j hj
  have hj' : j < (l.flatMap htE).length := by simpa using hj
  rw [Nat.zero_add]
  have h1 := h.cells (g := g) rfl j _ (List.getElem?_eq_getElem hj')
  rw [show (⟨g, 0, none⟩ : Addr).add j = ⟨g, j, none⟩ by unfold Addr.add; split <;> simp_all] at h1
  refine ⟨?_, ?_⟩
  · rw [h1, getElem!_pos (l.flatMap htE).toArray j (by simpa using hj')]
    simp
  · rcases h.2 with ⟨e0, _⟩ | ⟨g', cap', cur, e0, hb, hg, _⟩
    · cases e0
    · injection e0 with e1 _ e3
      injection e1 with e1
      injection e1 with e1
      subst e1
      simp [World.frozen?, hg]
theorem perm_all {d d' : Array Ht} (h : PermIn 0 d.size d d') : d'.toList.Perm d.toList := by
  have h2 := h.2.2
  have h1 := h.1
  rw [Array.extract_eq_self_of_le (Nat.le_refl _), Array.extract_eq_self_of_le (by omega)] at h2
  exact h2
theorem sorted_all {d : Array Ht} (h : SortedIn (ltOf cfH) 0 d.size d) : d.toList.Pairwise fun x y => bytesBefore y.key x.key = false := by
  rw [List.pairwise_iff_getElem]
  intro i j hi hj hij
  have hi' : i < d.size := by simpa using hi
  have hj' : j < d.size := by simpa using hj
  have h1 := h i j (Nat.zero_le _) hij hj'
  rw [ltH, getElem!_pos d j hj', getElem!_pos d i hi'] at h1
  simpa using h1
theorem agg35 : ∀ w, (isAgg 35).run Try.prog w = .ok true w := fun w => by kernel_rfl
theorem size35 : ∀ w, (Go.sizeOf 35).run Try.prog w = .ok 4 w := fun w => by kernel_rfl
theorem hsort_any (base : Nat) (A : Option Addr) (n c : Nat) (l : List Ht) (w : World) (ho : w.ownsRow base 35 4 (.slice A n c) n (l.flatMap htE)) (hn : n < 4611686018427387904) :
    Calls Try.prog 42 #[.slice A n c, .func (.func 28) #[] #[]] w fun e w' => e = .returned (.tuple #[]) ∧
      ∃ l' : List Ht, l'.Perm l ∧ (l'.Pairwise fun x y => bytesBefore y.key x.key = false) ∧ w'.ownsRow base 35 4 (.slice A n c) n (l'.flatMap htE) ∧ (∀ B, B ≤ base → Below B w w') := by
  have hlen : l.length = n := by
    have h1 := ho.1
    rw [flat_length htL] at h1
    omega
  rcases ho.2 with ⟨e0, h0⟩ | ⟨g, cap, cur, e0, hb, hg, hr⟩
  · injection e0 with e1 e2 e3
    subst e1 e2 e3
    refine (AnyF.slices_SortFunc_none sortHt none 0 _ w).mono ?_
    rintro e w' ⟨rfl, rfl⟩
    refine ⟨rfl, l, List.Perm.refl _, ?_, ho, fun B _ => Below.refl _ _⟩
    have : l = [] := List.eq_nil_of_length_eq_zero (by omega)
    subst this
    exact List.Pairwise.nil
  · injection e0 with e1 e2 e3
    subst e1 e3
    subst hlen
    have hH := holds_own ho
    have hlt : g < w.heap.size := (Array.getElem?_eq_some_iff.1 hg).1
    have hcon := AnyQ.slices_SortFunc sortHt 4 agg35 size35 htE htL htE_one cfH swoH 28 #[] g 0 c l.toArray w (enters_of Try.func28 (by kernel_rfl) rfl) (fun _ _ _ _ x y => closure_any x y _) hH hlt (by simpa using hn)
    refine hcon.mono ?_
    rintro e w' ⟨rfl, d', m, os, hp, hs, rfl⟩
    have hp' := perm_all hp
    have hsz : d'.size = l.length := by have := hp.1; simpa using this
    have hs' := sorted_all (d := d') (by rw [hsz]; simpa using hs)
    refine ⟨rfl, d'.toList, by simpa using hp', hs', ?_, fun B hB => ?_⟩
    · unfold sortWorldK putRowK
      have hf := flatK_list d'.toList
      rw [Array.toArray_toList] at hf
      rw [hf]
      exact owned_grow (own_putRow ho (by rw [flat_length htL, flat_length htL]; simp [hsz])) (grows_grow _ _)
    · unfold sortWorldK putRowK
      exact Below.trans (Lib.below_putRow (Below.refl B w) (Nat.le_trans hB hb)) ((grows_grow _ _).mono (by simp [putRow, mapBlock, Sort.ahead]; omega))
end Go.Proofs.Ytdjlhdeejpndcaa
