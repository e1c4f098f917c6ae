/-
  Read.
-/
import Derived.Test.YtmfhpfehphbklaaDkDo6
import Derived.Laws.CopyOwn
namespace Go.Proofs.Ytmfhpfehphbklaa
open Go.RowKit Go.Maps Go.WideMaps
set_option linter.unusedVariables false
set_option linter.unusedSimpArgs false

/-- What Read hands back. -/
def ReadTo (w : World) (r : Option (List UInt8) × Int) (e : Ending) (w' : World) : Prop :=
  match r.1 with
  | none => e = .returned (.tuple #[.slice none 0 0, .int .i64 r.2]) ∧ w = w'
  | some bs => e = .returned (.tuple #[.slice (some ⟨w.heap.size, 0, none⟩) bs.length bs.length, .int .i64 r.2]) ∧ w'.ownsRow w.heap.size 5 1 (.slice (some ⟨w.heap.size, 0, none⟩) bs.length bs.length) bs.length (bs.map byteV) ∧ Grows w w'

theorem add_two (ad : Addr) (x j : Nat) : ad.add (x + j) = (ad.add x).add j := by
  unfold Addr.add
  by_cases hx : x = 0
  · subst hx; simp
  · by_cases hj : j = 0
    · subst hj; simp
    · simp [hx, hj, Nat.add_assoc]
/-- copy into a whole row of one's own. -/
theorem copy_run {w3 : World} {g K S C : Nat} {sp : Option Addr} {cur cs : List Value} (ty : TypeId) (hsz : (Try.prog.info? 5).map (·.size) = some 1) (hg : w3.heap[g]? = some (.cells cur.toArray 5 (0, 0))) (hc : cs.length = K) (hS : K ≤ S) (hcur : cur.length = K)
    (hpos : 0 < K → ∃ ad, sp = some ad ∧ ∀ (j : Nat) v, cs[j]? = some v → w3.cell? (ad.add j) = some v) (h1 : ∀ v ∈ cs, v.oneCell' = true) :
    ∃ w4, (Builtin.copy_ #[23, 23] ty #[.slice (some ⟨g, 0, none⟩) K K, .slice sp S C]).run Try.prog w3 = .ok (goInt K) w4 ∧ w4.heap[g]? = some (.cells (splice cur 0 cs).toArray 5 (0, 0)) ∧ Below g w3 w4 := by
  by_cases h0 : K = 0
  · subst h0
    obtain rfl : cs = [] := List.eq_nil_of_length_eq_zero hc
    exact ⟨w3, run_copy_none w3 _ _ ty 5 _ _ _ _ _ _ Try.underlying23 hsz (by simp), by simpa [splice] using hg, Below.refl _ _⟩
  · obtain ⟨ad, rfl, hsrc⟩ := hpos (by omega)
    have hr := run_copy_row (P := Try.prog) w3 23 23 ty 5 g 0 K K ad S C cur.toArray 5 cs Try.underlying23 hsz hg (by rw [hc]; exact (Nat.min_eq_right hS).symm) hsrc (by simp; omega) h1
    rw [hc] at hr
    refine ⟨_, hr, ?_, below_setRow (Below.refl _ _) (Nat.le_refl _) _⟩
    have := setRow_heap w3 g cur.toArray (List.take 0 cur ++ cs ++ List.drop (0 + K) cur).toArray 5 (0, 0) hg
    rw [this]
    unfold splice
    rw [hc, List.append_assoc]
theorem madeBytes (k : Nat) : (madeCells (Value.int .u8 0).cells (k * 1)).toList.length = k := by simp [size_madeCells]

section
variable {w : World} {d : Nat} {own : Nat → Prop} {G : Geo} {m : Dk}
set_option maxHeartbeats 8000000 in
set_option maxRecDepth 100000 in
theorem read_any (w : World) (n : Nm) (x k : Int) (h : DkAt w d own G m) (hF : DkFit m) (hn : n.length ≤ maxLen) (hx : -9223372036854775808 ≤ x ∧ x ≤ 9223372036854775807) (hk : -9223372036854775808 ≤ k ∧ k ≤ 9223372036854775807) :
    Calls Try.prog 33 #[.pointer (some ⟨d, 0, none⟩), .string ⟨n.toArray⟩, .int .i64 x, .int .i64 k] w fun e w' => ReadTo w (m.read n x k) e w' := by
  unfold Dk.read
  cases hd : m.down with
  | true =>
    have HFI := Lib.hid (find_down w h hn hd)
    rw [if_pos rfl]
    clear h hF hn hd hx hk
    go_enter Try.func33, Try.ntmps33
    go_wp2_with (fail)
    refine HFI.out.mono ?_
    rintro e w2 ⟨rfl, rfl⟩
    go_wp2_with (fail)
    all_goals (go_ret2; exact ⟨rfl, rfl⟩)
  | false =>
  rw [if_neg (by decide)]
  cases hf : Dir.find n m.names with
  | none =>
    have HFI := Lib.hid (find_none w h hn hd hf)
    dsimp only
    clear h hF hn hd hf hx hk
    go_enter Try.func33, Try.ntmps33
    go_wp2_with (fail)
    refine HFI.out.mono ?_
    rintro e w2 ⟨rfl, rfl⟩
    go_wp2_with (fail)
    all_goals (go_ret2; exact ⟨rfl, rfl⟩)
  | some f =>
  have HFI := Lib.hid (find_some w h hn hd hf)
  have hlt := h.find_lt hn hf
  obtain ⟨A0, c0, hA0, hbare⟩ := slice_of_owned (h.rest.rows f hlt)
  have hc := h.rest.cells f hlt
  have hrow := h.rest.rows f hlt
  rw [hA0] at hc hrow
  have hl := (hF.bytes f hlt).1
  have c1 : w.cell? ⟨G.loc f, 1, none⟩ = some (.slice A0 (m.files f).bytes.length c0) := hc.cell 1
  have hcap : (m.files f).bytes.length ≤ c0 := by
    rcases hrow.2 with ⟨e, e2⟩ | ⟨g, cap, cur, e, _, _, e2, _⟩
    · injection e with _ e _; omega
    · injection e with _ _ e; omega
  have HR := Lib.hid hrow
  have HBARE := Lib.hid hbare
  dsimp only
  clear h hF hn hd hf hA0 hc hrow hlt hbare
  generalize (m.files f).bytes = bs at *
  generalize hnn : bs.length = nn at *
  have HN := Lib.hid hnn
  clear hnn
  generalize G.loc f = lf at *
  by_cases b1 : x < 0
  · rw [if_pos (.inl b1)]
    clear hx hk HR HBARE hcap
    go_enter Try.func33, Try.ntmps33
    go_wp2_with (fail)
    refine HFI.out.mono ?_
    rintro e w2 ⟨rfl, rfl⟩
    go_wp2_with (fail)
    all_goals (go_ret2; exact ⟨rfl, rfl⟩)
  by_cases b2 : k < 0
  · rw [if_pos (.inr (.inl b2))]
    clear hx hk HR HBARE hcap
    go_enter Try.func33, Try.ntmps33
    go_wp2_with (fail)
    refine HFI.out.mono ?_
    rintro e w2 ⟨rfl, rfl⟩
    go_wp2_with (fail)
    all_goals (go_ret2; exact ⟨rfl, rfl⟩)
  by_cases b3 : (nn : Int) < x
  · rw [if_pos (.inr (.inr (.inl b3)))]
    clear hx hk HR HBARE hcap
    go_enter Try.func33, Try.ntmps33
    go_wp2_with (fail)
    refine HFI.out.mono ?_
    rintro e w2 ⟨rfl, rfl⟩
    go_wp2_with (fail)
    all_goals (go_ret2; exact ⟨rfl, rfl⟩)
  have w1 : IntKind.i64.wrap ((nn : Int) - x) = nn - x := IntWalk.i64_in _ (by omega)
  by_cases b4 : (nn : Int) - x < k
  · rw [if_pos (.inr (.inr (.inr b4)))]
    clear hx hk HR HBARE hcap
    go_enter Try.func33, Try.ntmps33
    go_wp2_with (fail)
    refine HFI.out.mono ?_
    rintro e w2 ⟨rfl, rfl⟩
    go_wp2_with (fail)
    all_goals (go_ret2; exact ⟨rfl, rfl⟩)
  rw [if_neg (by rintro (e | e | e | e) <;> contradiction)]
  obtain ⟨X, rfl⟩ : ∃ X : Nat, x = X := ⟨x.toNat, by omega⟩
  obtain ⟨K, rfl⟩ : ∃ K : Nat, k = K := ⟨k.toNat, by omega⟩
  obtain ⟨ys, hys⟩ : ∃ ys, (bs.drop X).take K = ys := ⟨_, rfl⟩
  have hyl : ys.length = K := by
    rw [← hys, List.length_take, List.length_drop, HN.out]
    omega
  have e1 : ((X : Int)).toNat = X := by omega
  have e2 : ((K : Int)).toNat = K := by omega
  rw [e1, e2, hys]
  have HY := Lib.hid (And.intro hys hyl)
  unfold ReadTo
  dsimp only
  rw [hyl]
  obtain ⟨i0, hi0, hz0, hz1, hz2⟩ := info_parts infoU8
  have HI := Lib.hid (And.intro hi0 (And.intro hz0 (And.intro hz1 hz2)))
  have HIS := Lib.hid (show (Try.prog.info? 5).map (·.size) = some 1 by rw [hi0]; simp [hz1])
  clear hi0 hz0 hz1 hz2 hys e1 e2
  have q1 : X ≤ nn := by omega
  have q2 : K ≤ nn - X := by omega
  have q3 : K ≤ 1000000000 := by omega
  have HQ := Lib.hid (And.intro q1 (And.intro q2 hcap))
  have src : ∀ ad, A0 = some ad → ∀ w', Grows w w' → ∀ j v, (ys.map byteV)[j]? = some v → w'.cell? (ad.add (X + j)) = some v := fun ad ea w' hg j v hv => by
    have hr := Row.owned HR.out
    have h1 : (bs.map byteV)[X + j]? = some v := by
      rw [← HY.out.1, List.map_take, List.map_drop] at hv
      rw [List.getElem?_take] at hv
      split at hv
      · rwa [List.getElem?_drop] at hv
      · cases hv
    obtain ⟨ad', e, hb, hcl⟩ := Row.spot hr _ v h1
    rw [ea] at e
    cases e
    rw [← hcl]
    refine World.cell?_of_block ?_
    rw [show (ad.add (X + j)).block = ad.block by unfold Addr.add; split <;> rfl]
    exact hg.block _ hb
  have HS := Lib.hid src
  clear src hyl
  have fin : ∀ w1 w2 : World, w1.ownsRow w.heap.size 5 1 (.slice (some ⟨w.heap.size, 0, none⟩) K K) K (madeCells (Value.int .u8 0).cells (K * 1)).toList → w.grownBy w1 none → Below w.heap.size w1 w2 → w2.heap[w.heap.size]? = some (.cells (splice (madeCells (Value.int .u8 0).cells (K * 1)).toList 0 (ys.map byteV)).toArray 5 (0, 0)) →
      w2.ownsRow w.heap.size 5 1 (.slice (some ⟨w.heap.size, 0, none⟩) K K) K (ys.map byteV) ∧ Grows w w2 := fun w1 w2 hr hg hb hs => by
    have hsp : splice (madeCells (Value.int .u8 0).cells (K * 1)).toList 0 (ys.map byteV) = ys.map byteV := by
      unfold splice
      rw [List.drop_eq_nil_of_le (by rw [madeBytes, List.length_map, HY.out.2]; omega)]
      simp
    rw [hsp] at hs
    refine ⟨⟨by rw [List.length_map, HY.out.2]; omega, .inr ⟨w.heap.size, K, (ys.map byteV).toArray, rfl, Nat.le_refl _, hs, Nat.le_refl _, by unfold maxLen; omega, ?_, ?_⟩⟩, ?_⟩
    · rw [List.size_toArray, List.length_map, HY.out.2]; omega
    · rw [List.take_of_length_le]
      rw [Array.length_toList, List.size_toArray, List.length_map, HY.out.2]; omega
    · have h1 : Grows w w1 := (Below.refl _ w).grown hg (Nat.le_refl _) (fun g e => by cases e)
      exact Below.trans h1 hb
  have HFN := Lib.hid fin
  clear fin
  have MK : ∀ w1 : World, w1.ownsRow w.heap.size 5 1 (.slice (some ⟨w.heap.size, 0, none⟩) K K) K (madeCells (Value.int .u8 0).cells (K * 1)).toList → w.grownBy w1 none → w1.heap[w.heap.size]? = some (.cells (madeCells (Value.int .u8 0).cells (K * 1)).toList.toArray 5 (0, 0)) ∧ w1.cell? ⟨lf, 1, none⟩ = some (.slice A0 nn c0) ∧ ∀ ad, A0 = some ad → ∀ j v, (ys.map byteV)[j]? = some v → w1.cell? ((ad.add X).add j) = some v := fun w1 hr hg => by
    refine ⟨?_, (((Below.refl _ w).grown hg (Nat.le_refl _) (fun g e => by cases e)).cell (World.block_lt_of_cell? w _ c1)).trans c1, fun ad e j v hv => by
    have := HS.out ad e w1 ((Below.refl _ w).grown hg (Nat.le_refl _) (fun g e => by cases e)) j v hv
    rwa [add_two] at this⟩
    rcases hr.2 with ⟨e, _⟩ | ⟨g, cap, cur, e, _, hh, e3, _, e4, e5⟩
    · injection e with e; cases e
    · injection e with e _ e6
      injection e with e
      injection e with e
      subst e
      subst e6
      rw [hh, ← e5, List.take_of_length_le (by rw [Array.length_toList, e4]; omega)]
  have HMK := Lib.hid MK
  clear MK
  have d0 : ¬ (X : Int) < 0 := b1
  cases A0 with
  | none =>
    obtain rfl : c0 = 0 := HBARE.out rfl
    obtain rfl : nn = 0 := by omega
    obtain rfl : X = 0 := by omega
    obtain rfl : K = 0 := by omega
    go_enter Try.func33, Try.ntmps33
    go_wp2_with (fail)
    refine HFI.out.mono ?_
    rintro e w2 ⟨rfl, rfl⟩
    go_wp2_with (first
      | (at_make; refine wpList_make_full _ rfl _ _ 23 rfl w.heap.size 5 i0 (.int .u8 0) 1 Try.underlying23 HI.out.1 HI.out.2.1 HI.out.2.2.1 .i64 .i64 _ _ 0 rfl rfl rfl rfl (by rw [HI.out.2.2.2]; omega) (by unfold maxLen; omega) (Nat.le_refl _) ?_; intro w3 hr3 hg3; have c3 := (HMK.out w3 hr3 hg3).2.1; have HR3 := Lib.hid hr3; have HG3 := Lib.hid hg3; clear hr3 hg3))
    obtain ⟨w4, hrun, hs4, hb4⟩ := copy_run (K := 0) (S := 0) (C := 0) (sp := none) 3 HIS.out (HMK.out w3 HR3.out HG3.out).1 (cs := ys.map byteV) (by rw [List.length_map, HY.out.2]) (Nat.le_refl _) (madeBytes 0) (fun h => absurd h (Nat.lt_irrefl 0)) (byteV_one ys)
    have HS4 := Lib.hid hs4
    have HB4 := Lib.hid hb4
    clear hs4 hb4
    rw [hrun]
    simp only [Result.andThen]
    rw [Oper.upon_value]
    clear hrun
    go_wp2_with (fail)
    go_ret2
    obtain ⟨z1, z2⟩ := HFN.out w3 w4 HR3.out HG3.out HB4.out HS4.out
    exact ⟨rfl, z1, z2⟩
  | some ad =>
    by_cases hcx : c0 = X
    · obtain rfl : K = 0 := by omega
      go_enter Try.func33, Try.ntmps33
      go_wp2_with (fail)
      refine HFI.out.mono ?_
      rintro e w2 ⟨rfl, rfl⟩
      go_wp2_with (first
        | (at_make; refine wpList_make_full _ rfl _ _ 23 rfl w.heap.size 5 i0 (.int .u8 0) 1 Try.underlying23 HI.out.1 HI.out.2.1 HI.out.2.2.1 .i64 .i64 _ _ 0 rfl rfl rfl rfl (by rw [HI.out.2.2.2]; omega) (by unfold maxLen; omega) (Nat.le_refl _) ?_; intro w3 hr3 hg3; have c3 := (HMK.out w3 hr3 hg3).2.1; have HR3 := Lib.hid hr3; have HG3 := Lib.hid hg3; clear hr3 hg3))
      obtain ⟨w4, hrun, hs4, hb4⟩ := copy_run (K := 0) (S := nn - X) (C := 0) (sp := some ad) 3 HIS.out (HMK.out w3 HR3.out HG3.out).1 (cs := ys.map byteV) (by rw [List.length_map, HY.out.2]) HQ.out.2.1 (madeBytes 0) (fun h => absurd h (Nat.lt_irrefl 0)) (byteV_one ys)
      have HS4 := Lib.hid hs4
      have HB4 := Lib.hid hb4
      clear hs4 hb4
      rw [hrun]
      simp only [Result.andThen]
      rw [Oper.upon_value]
      clear hrun
      go_wp2_with (fail)
      go_ret2
      obtain ⟨z1, z2⟩ := HFN.out w3 w4 HR3.out HG3.out HB4.out HS4.out
      exact ⟨rfl, z1, z2⟩
    · go_enter Try.func33, Try.ntmps33
      go_wp2_with (fail)
      refine HFI.out.mono ?_
      rintro e w2 ⟨rfl, rfl⟩
      go_wp2_with (first
        | (at_make; refine wpList_make_full _ rfl _ _ 23 rfl w.heap.size 5 i0 (.int .u8 0) 1 Try.underlying23 HI.out.1 HI.out.2.1 HI.out.2.2.1 .i64 .i64 _ _ K rfl rfl rfl rfl (by rw [HI.out.2.2.2]; omega) (by unfold maxLen; omega) (Nat.le_refl _) ?_; intro w3 hr3 hg3; have c3 := (HMK.out w3 hr3 hg3).2.1; have HR3 := Lib.hid hr3; have HG3 := Lib.hid hg3; clear hr3 hg3))
      obtain ⟨w4, hrun, hs4, hb4⟩ := copy_run (K := K) (S := nn - X) (C := c0 - X) (sp := some (ad.add X)) 3 HIS.out (HMK.out w3 HR3.out HG3.out).1 (cs := ys.map byteV) (by rw [List.length_map, HY.out.2]) HQ.out.2.1 (madeBytes K) (fun _ => ⟨_, rfl, (HMK.out w3 HR3.out HG3.out).2.2 _ rfl⟩) (byteV_one ys)
      have HS4 := Lib.hid hs4
      have HB4 := Lib.hid hb4
      clear hs4 hb4
      rw [hrun]
      simp only [Result.andThen]
      rw [Oper.upon_value]
      clear hrun
      go_wp2_with (fail)
      go_ret2
      obtain ⟨z1, z2⟩ := HFN.out w3 w4 HR3.out HG3.out HB4.out HS4.out
      exact ⟨rfl, z1, z2⟩
end
end Go.Proofs.Ytmfhpfehphbklaa

