import Derived.Test.YtlldcogkcjnejaaGreatMG05
import Derived.Laws.CopyOwn
import Derived.Shelf.SlIter.Nil
import Derived.Shelf.SortM.Plain
import Derived.Shelf.SortM.SortNone
import Derived.Shelf.SlMaps.Clone
import Derived.Test.YtlldcogkcjnejaaGreatProg
import Derived.Test.YtlldcogkcjnejaaGreatMG00
import Derived.WalkKit
import Derived.ProofKit
import Derived.OpenShut
import Derived.ShutString
import Derived.ChangeOld
import Derived.SizedLaws
import Derived.Below
import Derived.Test.YtlldcogkcjnejaaGreatMG01
import Derived.Lib.Hide
import Derived.LoopTactic
import Derived.IntWalk
import Derived.WalkLawsBesides
namespace Go.Proofs.YtlldcogkcjnejaaGreat
open Go.Lib (hid)
open Go.RowKit Go.Maps Go.WideMaps
def Ze2 (w : World) (r : Option (List UInt8) × Int) (e : Ending) (w' : World) : Prop :=
 match r.1 with
 | none => e = .returned (.tuple #[.slice none 0 0, .int .i64 r.2]) ∧ w = w'
 | some bs => e = .returned (.tuple #[.slice (some ⟨w.heap.size, 0, none⟩) bs.length bs.length, .int .i64 r.2]) ∧ w'.ownsRow w.heap.size 5 1 (.slice (some ⟨w.heap.size, 0, none⟩) bs.length bs.length) bs.length (bs.map byteV) ∧ Grows w w'
theorem Zq9 (ad : Addr) (x j : Nat) : ad.add (x + j) = (ad.add x).add j := by
 unfold Addr.add
 by_cases hx : x = 0
 ·subst hx; simp
 ·by_cases hj : j = 0
  ·subst hj; simp
  ·simp [hx, hj, Nat.add_assoc]
theorem Zfw {w3 : World} {g K S C : Nat} {sp : Option Addr} {cur cs : List Value} (ty : TypeId) (hsz : (Tryz.prog.info? 5).map (·.size) = some 1) (hg : w3.heap[g]? = some (.cells cur.toArray 5 (0, 0))) (hc : cs.length = K) (hS : K ≤ S) (hcur : cur.length = K)
 (hpos : 0 < K → ∃ ad, sp = some ad ∧ ∀ (j : Nat) v, cs[j]? = some v → w3.cell? (ad.add j) = some v) (h1 : ∀ v ∈ cs, v.oneCell' = true) :
 ∃ w4, (Builtin.copy_ #[31, 31] ty #[.slice (some ⟨g, 0, none⟩) K K, .slice sp S C]).run Tryz.prog w3 = .ok (goInt K) w4 ∧ w4.heap[g]? = some (.cells (splice cur 0 cs).toArray 5 (0, 0)) ∧ Below g w3 w4 := by
 by_cases h0 : K = 0
 ·subst h0
  obtain rfl : cs = [] := List.eq_nil_of_length_eq_zero hc
  exact ⟨w3, run_copy_none w3 _ _ ty 5 _ _ _ _ _ _ Tryz.underlying31 hsz (by simp), by simpa [splice] using hg, Below.refl _ _⟩
 ·obtain ⟨ad, rfl, hsrc⟩ := hpos (by omega)
  have hr := run_copy_row (P := Tryz.prog) w3 31 31 ty 5 g 0 K K ad S C cur.toArray 5 cs Tryz.underlying31 hsz hg (by rw [hc]; exact (Nat.min_eq_right hS).symm) hsrc (by simp; omega) h1
  rw [hc] at hr
  refine ⟨_, hr, ?_, Zc2 (Below.refl _ _) (Nat.le_refl _) _⟩
  have := setRow_heap w3 g cur.toArray (List.take 0 cur ++ cs ++ List.drop (0 + K) cur).toArray 5 (0, 0) hg
  rw [this]
  unfold splice
  rw [hc, List.append_assoc]
theorem Zcc (k : Nat) : (madeCells (Value.int .u8 0).cells (k * 1)).toList.length = k := by simp [size_madeCells]
section
variable {w : World} {d : Nat} {own : Nat → Prop} {G : Geo} {m : Dk}
set_option maxHeartbeats 8000000 in
set_option maxRecDepth 100000 in
theorem Zoz (w : World) (n : Nm) (x k : Int) (h : DkAt w d own G m) (hF : DkFit m) (hn : n.length ≤ maxLen) (hx : -9223372036854775808 ≤ x ∧ x ≤ 9223372036854775807) (hk : -9223372036854775808 ≤ k ∧ k ≤ 9223372036854775807) :
 Calls Tryz.prog 52 #[.pointer (some ⟨d, 0, none⟩), .string ⟨n.toArray⟩, .int .i64 x, .int .i64 k] w fun e w' => Ze2 w (m.read n x k) e w' := by
 unfold Dk.read
 cases hd : m.down with
 | true =>
   have HFI := hid (Zcd w h hn hd)
   rw [if_pos rfl]
   clear h hF hn hd hx hk
   go_enter Tryz.func52, Tryz.ntmps52
   go_wp2_with (fail)
   refine HFI.out.mono ?_
   rintro e w2 ⟨rfl, rfl⟩
   go_wp2_with (fail)
   all_goals (go_ret2; exact ⟨rfl, rfl⟩)
 | false =>
 rw [if_neg (by decide)]
 cases hf : Dir.find n m.names with
 | none =>
   have HFI := hid (Zce w h hn hd hf)
   dsimp only
   clear h hF hn hd hf hx hk
   go_enter Tryz.func52, Tryz.ntmps52
   go_wp2_with (fail)
   refine HFI.out.mono ?_
   rintro e w2 ⟨rfl, rfl⟩
   go_wp2_with (fail)
   all_goals (go_ret2; exact ⟨rfl, rfl⟩)
 | some f =>
 have HFI := hid (Zcf w h hn hd hf)
 have hlt := h.find_lt hn hf
 obtain ⟨A0, c0, hA0, hbare⟩ := Zq (h.rest.rows f hlt)
 have hc := h.rest.cells f hlt
 have hrow := h.rest.rows f hlt
 rw [hA0] at hc hrow
 have hl := (hF.bytes f hlt).1
 have c1 : w.cell? ⟨G.loc f, 1, none⟩ = some (.slice A0 (m.files f).bytes.length c0) := hc.cell 1
 have hcap : (m.files f).bytes.length ≤ c0 := by
  rcases hrow.2 with ⟨e, e2⟩ | ⟨g, cap, cur, e, _, _, e2, _⟩
  ·injection e with _ e _; omega
  ·injection e with _ _ e; omega
 have HR := hid hrow
 have HBARE := hid hbare
 dsimp only
 clear h hF hn hd hf hA0 hc hrow hlt hbare
 generalize (m.files f).bytes = bs at *
 generalize hnn : bs.length = nn at *
 have HN := hid hnn
 clear hnn
 generalize G.loc f = lf at *
 by_cases b1 : x < 0
 ·rw [if_pos (.inl b1)]
  clear hx hk HR HBARE hcap
  go_enter Tryz.func52, Tryz.ntmps52
  go_wp2_with (fail)
  refine HFI.out.mono ?_
  rintro e w2 ⟨rfl, rfl⟩
  go_wp2_with (fail)
  all_goals (go_ret2; exact ⟨rfl, rfl⟩)
 by_cases b2 : k < 0
 ·rw [if_pos (.inr (.inl b2))]
  clear hx hk HR HBARE hcap
  go_enter Tryz.func52, Tryz.ntmps52
  go_wp2_with (fail)
  refine HFI.out.mono ?_
  rintro e w2 ⟨rfl, rfl⟩
  go_wp2_with (fail)
  all_goals (go_ret2; exact ⟨rfl, rfl⟩)
 by_cases b3 : (nn : Int) < x
 ·rw [if_pos (.inr (.inr (.inl b3)))]
  clear hx hk HR HBARE hcap
  go_enter Tryz.func52, Tryz.ntmps52
  go_wp2_with (fail)
  refine HFI.out.mono ?_
  rintro e w2 ⟨rfl, rfl⟩
  go_wp2_with (fail)
  all_goals (go_ret2; exact ⟨rfl, rfl⟩)
 have w1 : IntKind.i64.wrap ((nn : Int) - x) = nn - x := IntWalk.i64_in _ (by omega)
 by_cases b4 : (nn : Int) - x < k
 ·rw [if_pos (.inr (.inr (.inr b4)))]
  clear hx hk HR HBARE hcap
  go_enter Tryz.func52, Tryz.ntmps52
  go_wp2_with (fail)
  refine HFI.out.mono ?_
  rintro e w2 ⟨rfl, rfl⟩
  go_wp2_with (fail)
  all_goals (go_ret2; exact ⟨rfl, rfl⟩)
 rw [if_neg (by rintro (e | e | e | e) <;> contradiction)]
 obtain ⟨X, rfl⟩ : ∃ X : Nat, x = X := ⟨x.toNat, by omega⟩
 obtain ⟨K, rfl⟩ : ∃ K : Nat, k = K := ⟨k.toNat, by omega⟩
 obtain ⟨ys, hys⟩ : ∃ ys, (bs.drop X).take K = ys := ⟨_, rfl⟩
 have hyl : ys.length = K := by
  rw [← hys, List.length_take, List.length_drop, HN.out]
  omega
 have e1 : ((X : Int)).toNat = X := by omega
 have e2 : ((K : Int)).toNat = K := by omega
 rw [e1, e2, hys]
 have HY := hid (And.intro hys hyl)
 unfold Ze2
 dsimp only
 rw [hyl]
 obtain ⟨i0, hi0, hz0, hz1, hz2⟩ := info_parts infoU8
 have HI := hid (And.intro hi0 (And.intro hz0 (And.intro hz1 hz2)))
 have HIS := hid (show (Tryz.prog.info? 5).map (·.size) = some 1 by rw [hi0]; simp [hz1])
 clear hi0 hz0 hz1 hz2 hys e1 e2
 have q1 : X ≤ nn := by omega
 have q2 : K ≤ nn - X := by omega
 have q3 : K ≤ 1000000000 := by omega
 have HQ := hid (And.intro q1 (And.intro q2 hcap))
 have src : ∀ ad, A0 = some ad → ∀ w', Grows w w' → ∀ j v, (ys.map byteV)[j]? = some v → w'.cell? (ad.add (X + j)) = some v := fun ad ea w' hg j v hv => by
  have hr := Row.owned HR.out
  have h1 : (bs.map byteV)[X + j]? = some v := by
   rw [← HY.out.1, List.map_take, List.map_drop] at hv
   rw [List.getElem?_take] at hv
   split at hv
   ·rwa [List.getElem?_drop] at hv
   ·cases hv
  obtain ⟨ad', e, hb, hcl⟩ := Row.spot hr _ v h1
  rw [ea] at e
  cases e
  rw [← hcl]
  refine World.cell?_of_block ?_
  rw [show (ad.add (X + j)).block = ad.block by unfold Addr.add; split <;> rfl]
  exact hg.block _ hb
 have HS := hid src
 clear src hyl
 have fin : ∀ w1 w2 : World, w1.ownsRow w.heap.size 5 1 (.slice (some ⟨w.heap.size, 0, none⟩) K K) K (madeCells (Value.int .u8 0).cells (K * 1)).toList → w.grownBy w1 none → Below w.heap.size w1 w2 → w2.heap[w.heap.size]? = some (.cells (splice (madeCells (Value.int .u8 0).cells (K * 1)).toList 0 (ys.map byteV)).toArray 5 (0, 0)) →
  w2.ownsRow w.heap.size 5 1 (.slice (some ⟨w.heap.size, 0, none⟩) K K) K (ys.map byteV) ∧ Grows w w2 := fun w1 w2 hr hg hb hs => by
  have hsp : splice (madeCells (Value.int .u8 0).cells (K * 1)).toList 0 (ys.map byteV) = ys.map byteV := by
   unfold splice
   rw [List.drop_eq_nil_of_le (by rw [Zcc, List.length_map, HY.out.2]; omega)]
   simp
  rw [hsp] at hs
  refine ⟨⟨by rw [List.length_map, HY.out.2]; omega, .inr ⟨w.heap.size, K, (ys.map byteV).toArray, rfl, Nat.le_refl _, hs, Nat.le_refl _, by unfold maxLen; omega, ?_, ?_⟩⟩, ?_⟩
  ·rw [List.size_toArray, List.length_map, HY.out.2]; omega
  ·rw [List.take_of_length_le]
   rw [Array.length_toList, List.size_toArray, List.length_map, HY.out.2]; omega
  ·have h1 : Grows w w1 := (Below.refl _ w).grown hg (Nat.le_refl _) (fun g e => by cases e)
   exact Below.trans h1 hb
 have HFN := hid fin
 clear fin
 have MK : ∀ w1 : World, w1.ownsRow w.heap.size 5 1 (.slice (some ⟨w.heap.size, 0, none⟩) K K) K (madeCells (Value.int .u8 0).cells (K * 1)).toList → w.grownBy w1 none → w1.heap[w.heap.size]? = some (.cells (madeCells (Value.int .u8 0).cells (K * 1)).toList.toArray 5 (0, 0)) ∧ w1.cell? ⟨lf, 1, none⟩ = some (.slice A0 nn c0) ∧ ∀ ad, A0 = some ad → ∀ j v, (ys.map byteV)[j]? = some v → w1.cell? ((ad.add X).add j) = some v := fun w1 hr hg => by
  refine ⟨?_, (((Below.refl _ w).grown hg (Nat.le_refl _) (fun g e => by cases e)).cell (World.block_lt_of_cell? w _ c1)).trans c1, fun ad e j v hv => by
  have := HS.out ad e w1 ((Below.refl _ w).grown hg (Nat.le_refl _) (fun g e => by cases e)) j v hv
  rwa [Zq9] at this⟩
  rcases hr.2 with ⟨e, _⟩ | ⟨g, cap, cur, e, _, hh, e3, _, e4, e5⟩
  ·injection e with e; cases e
  ·injection e with e _ e6
   injection e with e
   injection e with e
   subst e
   subst e6
   rw [hh, ← e5, List.take_of_length_le (by rw [Array.length_toList, e4]; omega)]
 have HMK := hid MK
 clear MK
 have d0 : ¬ (X : Int) < 0 := b1
 cases A0 with
 | none =>
   obtain rfl : c0 = 0 := HBARE.out rfl
   obtain rfl : nn = 0 := by omega
   obtain rfl : X = 0 := by omega
   obtain rfl : K = 0 := by omega
   go_enter Tryz.func52, Tryz.ntmps52
   go_wp2_with (fail)
   refine HFI.out.mono ?_
   rintro e w2 ⟨rfl, rfl⟩
   go_wp2_with (first
    | (at_make; refine wpList_make_full _ rfl _ _ 31 rfl w.heap.size 5 i0 (.int .u8 0) 1 Tryz.underlying31 HI.out.1 HI.out.2.1 HI.out.2.2.1 .i64 .i64 _ _ 0 rfl rfl rfl rfl (by rw [HI.out.2.2.2]; omega) (by unfold maxLen; omega) (Nat.le_refl _) ?_; intro w3 hr3 hg3; have c3 := (HMK.out w3 hr3 hg3).2.1; have HR3 := hid hr3; have HG3 := hid hg3; clear hr3 hg3))
   obtain ⟨w4, hrun, hs4, hb4⟩ := Zfw (K := 0) (S := 0) (C := 0) (sp := none) 3 HIS.out (HMK.out w3 HR3.out HG3.out).1 (cs := ys.map byteV) (by rw [List.length_map, HY.out.2]) (Nat.le_refl _) (Zcc 0) (fun h => absurd h (Nat.lt_irrefl 0)) (Yg ys)
   have HS4 := hid hs4
   have HB4 := hid hb4
   clear hs4 hb4
   rw [hrun]
   simp only [Result.andThen]
   rw [Oper.upon_value]
   clear hrun
   go_wp2_with (fail)
   go_ret2
   obtain ⟨z1, z2⟩ := HFN.out w3 w4 HR3.out HG3.out HB4.out HS4.out
   exact ⟨rfl, z1, z2⟩
 | some ad =>
   by_cases hcx : c0 = X
   ·obtain rfl : K = 0 := by omega
    go_enter Tryz.func52, Tryz.ntmps52
    go_wp2_with (fail)
    refine HFI.out.mono ?_
    rintro e w2 ⟨rfl, rfl⟩
    go_wp2_with (first
     | (at_make; refine wpList_make_full _ rfl _ _ 31 rfl w.heap.size 5 i0 (.int .u8 0) 1 Tryz.underlying31 HI.out.1 HI.out.2.1 HI.out.2.2.1 .i64 .i64 _ _ 0 rfl rfl rfl rfl (by rw [HI.out.2.2.2]; omega) (by unfold maxLen; omega) (Nat.le_refl _) ?_; intro w3 hr3 hg3; have c3 := (HMK.out w3 hr3 hg3).2.1; have HR3 := hid hr3; have HG3 := hid hg3; clear hr3 hg3))
    obtain ⟨w4, hrun, hs4, hb4⟩ := Zfw (K := 0) (S := nn - X) (C := 0) (sp := some ad) 3 HIS.out (HMK.out w3 HR3.out HG3.out).1 (cs := ys.map byteV) (by rw [List.length_map, HY.out.2]) HQ.out.2.1 (Zcc 0) (fun h => absurd h (Nat.lt_irrefl 0)) (Yg ys)
    have HS4 := hid hs4
    have HB4 := hid hb4
    clear hs4 hb4
    rw [hrun]
    simp only [Result.andThen]
    rw [Oper.upon_value]
    clear hrun
    go_wp2_with (fail)
    go_ret2
    obtain ⟨z1, z2⟩ := HFN.out w3 w4 HR3.out HG3.out HB4.out HS4.out
    exact ⟨rfl, z1, z2⟩
   ·go_enter Tryz.func52, Tryz.ntmps52
    go_wp2_with (fail)
    refine HFI.out.mono ?_
    rintro e w2 ⟨rfl, rfl⟩
    go_wp2_with (first
     | (at_make; refine wpList_make_full _ rfl _ _ 31 rfl w.heap.size 5 i0 (.int .u8 0) 1 Tryz.underlying31 HI.out.1 HI.out.2.1 HI.out.2.2.1 .i64 .i64 _ _ K rfl rfl rfl rfl (by rw [HI.out.2.2.2]; omega) (by unfold maxLen; omega) (Nat.le_refl _) ?_; intro w3 hr3 hg3; have c3 := (HMK.out w3 hr3 hg3).2.1; have HR3 := hid hr3; have HG3 := hid hg3; clear hr3 hg3))
    obtain ⟨w4, hrun, hs4, hb4⟩ := Zfw (K := K) (S := nn - X) (C := c0 - X) (sp := some (ad.add X)) 3 HIS.out (HMK.out w3 HR3.out HG3.out).1 (cs := ys.map byteV) (by rw [List.length_map, HY.out.2]) HQ.out.2.1 (Zcc K) (fun _ => ⟨_, rfl, (HMK.out w3 HR3.out HG3.out).2.2 _ rfl⟩) (Yg ys)
    have HS4 := hid hs4
    have HB4 := hid hb4
    clear hs4 hb4
    rw [hrun]
    simp only [Result.andThen]
    rw [Oper.upon_value]
    clear hrun
    go_wp2_with (fail)
    go_ret2
    obtain ⟨z1, z2⟩ := HFN.out w3 w4 HR3.out HG3.out HB4.out HS4.out
    exact ⟨rfl, z1, z2⟩
end
end Go.Proofs.YtlldcogkcjnejaaGreat
namespace Go.Proofs.YtlldcogkcjnejaaGreat
open Go.Shelf
def cloneDk_ren : Go.Shelf.Ren := ⟨fun | 5 => 70 | 7 => 109 | n => n, fun | 23 => 55 | 25 => 9 | 3 => 111 | 4 => 4 | 20 => 20 | n => n, fun | n => n⟩
theorem cloneDk : Go.Proofs.SlLaysW.n5 Tryz.prog cloneDk_ren := {
 mixed := by kernel_rfl
 f5 := ⟨Tryz.f70.name, by decide, Tryz.func70.trans (congrArg some (by kernel_rfl))⟩
 f7 := Tryz.func109.trans (congrArg some (by kernel_rfl))
 t4 := Tryz.underlying4
 a4 := Tryz.isAgg4
 z4 := Tryz.sizeOf4
 v4 := Tryz.zeroValue4
 t20 := Tryz.underlying20
 a20 := Tryz.isAgg20
 z20 := Tryz.sizeOf20
 v20 := Tryz.zeroValue20
 t23 := Tryz.underlying55
 a23 := Tryz.isAgg55
 z23 := Tryz.sizeOf55
 v23 := Tryz.zeroValue55 }
end Go.Proofs.YtlldcogkcjnejaaGreat
namespace Go.Proofs.YtlldcogkcjnejaaGreat
open Go.RowKit Go.Maps Go.WideMaps Go.Sort Go.Shelf
theorem Zg7 {w : World} {made : Nat} {loc : Nat → Nat} {b n : Nat} {l : Dir} (h : OwnsN w made loc b n l) : (l.map (·.1)).Pairwise (fun x y => bytesBefore x y = true) := by
 obtain ⟨es, clock, hb, F, hs, hD⟩ := h
 have h1 := sorted_sorted lawStr.one _ (fit_keys F) (fit_apart lawStr F)
 unfold encD at hD
 injection hD with hD
 rw [← hD, List.pairwise_map] at h1
 rw [List.pairwise_map]
 exact h1
section
variable {d : Nat} {own : Nat → Prop} {G : Geo} {m : Dk}
end
end Go.Proofs.YtlldcogkcjnejaaGreat
namespace Go.Proofs.YtlldcogkcjnejaaGreat
open Go.ChangeShapes Go.WideShapes Go.ChangeAt Go.RowKit
section
variable {H : Type} {enc : TypeId × Value → H} {P : Program}
theorem Zkn {t : TypeId} {v : Value} {d : DataW H} {p : List MemPlace} {W : World} (h : DataW.Trod enc P W 0 (fun _ => true) true t v d p) : ∀ x ∈ p, x.block < W.heap.size := by
 obtain ⟨m, hm⟩ := h
 exact DataW.trod_lt m _ _ _ hm
theorem Zci (hl : laidOutB P = true) {W W' : World} (hb : Below W.heap.size W W') :
 ∀ {ts : List TypeId} {vs : List Value} {ds : List (DataW H)} {p : List MemPlace}, (∀ t ∈ ts, P.readableRec t = true ∧ t < P.types.size) →
  DataW.TrodAll enc P W 0 (fun _ => true) true ts vs ds p → DataW.TrodAll enc P W' 0 (fun b => decide (b < W.heap.size)) true ts vs ds p
 | [], [], [], _, _, h => h
 | t :: ts, v :: vs, d :: ds, _, hr, h => by
   obtain ⟨p, q, h1, h2, e⟩ := h
   have ht := hr t (by simp)
   exact ⟨p, q, Below.trod hl ht.1 ht.2 h1 hb (Zkn h1), Zci hl hb (fun t' ht' => hr t' (by simp [ht'])) h2, e⟩
 | [], _ :: _, _, _, _, h => h.elim
 | [], [], _ :: _, _, _, h => h.elim
 | _ :: _, [], _, _, _, h => h.elim
 | _ :: _, _ :: _, [], _, _, h => h.elim
end
theorem Zo9 {C : Checked} {os : Os} {f : FuncId} {fn : Func} {s : ChangeSpec} (H : Type) (enc : TypeId × Value → H) (own : ownKnob C.prog.godebug = none) (started : os.Started) (noInit : C.prog.inits.idxOf? f = none) (hfn : C.prog.funcs[f]? = some fn)
 (witness : ∃ (w : World) (tape : Tape) (i : Input), w.os = os ∧ (w.forCall tape i).Shaped C.prog ∧ i.vars = [] ∧ Input.okWide C.prog (w.forCall tape i) .any w.heap.size f i ∧
   s.pre6 enc C.prog fn [] false (w.forCall tape i).memory i.args ∧ Assume.holds {} C.prog (lone (Frame.enter C.prog f i.args .normal) [] (w.forCall tape i)))
 (hl : laidOutB C.prog = true) (hr : ∀ t ∈ fn.params.toList, C.prog.readableRec t = true ∧ t < C.prog.types.size) {tb : TypeId} (hres : fn.resultTypes = #[tb]) (hb : C.prog.underlying tb = some .bool)
 (hvars : s.vars = []) (hspec : ∀ ds : List (DataW H), ds.length = fn.params.size → s.fn H ds = { results := [.lit (.bool true)], args := ds })
 (walk : ∀ (W : World) (base : Nat) (args : Array Value) (ds : List (DataW H)) (p : List MemPlace), (∀ (j : Nat) t v, fn.params[j]? = some t → args[j]? = some v → Value.okWide C.prog W .any base t v) →
   DataW.TrodAll enc C.prog W 0 (fun _ => true) true fn.params.toList args.toList ds p → (DataW.weightsEach C.prog fn.params.toList ds).all (· ≤ reachBytes) = true →
   Calls C.prog f args W fun e W' => e = .returned (.bool true) ∧ Below W.heap.size W W') :
 ReturnsInHanded {} C os f .any (s.pre6 enc C.prog fn [] false) (s.post enc C.prog fn false true false false) := by
 refine returnsInHanded_of_change_sized own started noInit hfn witness ?_
 intro W base args ds gs before hval hW _ hsz _
 have hW' := hW
 obtain ⟨p, q, hA, hV, rfl, hfz, hnd⟩ := hW
 rw [hvars] at hV
 obtain ⟨rfl, rfl⟩ := trodVars_none hV
 have hlen : ds.length = fn.params.size := by
  have : ∀ {ts : List TypeId} {vs : List Value} {ds : List (DataW H)} {p : List MemPlace}, DataW.TrodAll enc C.prog W 0 (fun _ => true) true ts vs ds p → ds.length = ts.length := by
   intro ts
   induction ts with
   | nil => intro vs ds p h; cases vs <;> cases ds <;> first | rfl | exact h.elim
   | cons t ts ih =>
     intro vs ds p h
     cases vs <;> cases ds <;> first | exact h.elim | skip
     obtain ⟨_, _, _, h2, _⟩ := h
     simp [ih h2]
  rw [this hA]
  simp
 have hsz' : (DataW.weightsEach C.prog fn.params.toList ds).all (· ≤ reachBytes) = true := by
  have e : s.plain.varTypes C.prog = [] := by
   show s.vars.filterMap _ = []
   rw [hvars]; rfl
  rw [e, List.append_nil, List.append_nil] at hsz
  exact hsz
 refine (walk W base args ds p hval hA hsz').mono fun e W' ⟨he, bel⟩ => ?_
 subst he
 have hs := hspec ds hlen
 refine ⟨_, rfl, ds, [], p ++ [], [], p, [], hW', ?_, ?_, ?_, bel.frame _, fun h => by cases h⟩
 ·rw [List.append_nil, hs, hres]
  exact trodAll_mk1 (shut_bool hb _)
 ·rw [List.append_nil, hs]
  exact Zci hl bel hr hA
 ·rw [List.append_nil, hs, hvars]
  rfl
theorem Zik {P : Program} {ts : List TypeId} (h : ts.all (fun t => P.readableRec t && decide (t < P.types.size)) = true) : ∀ t ∈ ts, P.readableRec t = true ∧ t < P.types.size := fun t ht => by
 have := List.all_eq_true.1 h t ht
 simpa using this
/-! What an argument is, opened. -/
section
variable {H : Type} {enc : TypeId × Value → H} {P : Program} {W : World} {base : Nat} {r : Reach}
structure Came (W : World) (A : Option Addr) (n c : Nat) (bs : List UInt8) : Prop where
 bytes : Bytes W W.heap.size A n bs
 cap : n ≤ c
 reach : c ≤ 140737488351232
 bare : A = none → c = 0
theorem Zpa {n : Int} (h : (Lit.int .u8 n).wf = true) : ((UInt8.ofNat n.toNat).toNat : Int) = n := by
 have := bounds_u8 h
 rw [UInt8.toNat_ofNat']
 omega
end
end Go.Proofs.YtlldcogkcjnejaaGreat
namespace Go.Proofs.YtlldcogkcjnejaaGreat
end Go.Proofs.YtlldcogkcjnejaaGreat
namespace Go.Proofs.YtlldcogkcjnejaaGreat
open Go.ChangeShapes Go.WideShapes Go.ChangeAt Go.RowKit
def iV (x : Int) : Value := .int .i64 x
structure Ints (w : World) (A : Option Addr) (n c : Nat) (xs : List Int) : Prop where
 row : Row w w.heap.size A n (xs.map iV)
 cap : n ≤ c
 bare : A = none → c = 0
theorem Ints.len {w : World} {A : Option Addr} {n c : Nat} {xs : List Int} (h : Ints w A n c xs) : xs.length = n := by have := h.row.len; simpa using this
theorem Ints.grow {w w' : World} {A : Option Addr} {n c : Nat} {xs : List Int} (h : Ints w A n c xs) (hg : Grows w w') : Ints w' A n c xs := ⟨hg.row h.row, h.cap, h.bare⟩
theorem Ints.get {w : World} {A : Option Addr} {n c : Nat} {xs : List Int} (h : Ints w A n c xs) {j : Nat} (hj : j < n) : ∃ ad x, A = some ad ∧ w.cell? (ad.add j) = some (.int .i64 x) ∧ xs[j]? = some x ∧ ad.block < w.heap.size := by
 have hl := h.len
 have hx : xs[j]? = some xs[j] := List.getElem?_eq_getElem (by omega)
 obtain ⟨ad, hA, hb, hc⟩ := h.row.spot j (iV xs[j]) (by rw [List.getElem?_map, hx]; rfl)
 exact ⟨ad, xs[j], hA, hc, hx, hb⟩
section
variable {H : Type} {enc : TypeId × Value → H} {P : Program} {W : World} {base : Nat} {r : Reach}
end
end Go.Proofs.YtlldcogkcjnejaaGreat
namespace Go.Proofs.YtlldcogkcjnejaaGreat
open Go.Lib (hid)
open Go.RowKit Go.Maps Go.WideMaps
attribute [local irreducible] Go.wpQuiet
def left (l : List Int) (made n kept : Nat) : Nat := kept + (min (max (more l made) 0) ((n : Int) - kept)).toNat
theorem Zdp (l : List Int) (made : Nat) {n kept : Nat} (h : kept ≤ n) : left l made n kept ≤ n ∧ kept ≤ left l made n kept := by
 unfold left
 omega
set_option maxHeartbeats 8000000 in
set_option maxRecDepth 100000 in
theorem Zig {w : World} {b md n0 c0 kp : Nat} {A0 : Option Addr} {l : List Int} {A : Option Addr} {n c : Nat} (h : Whole w b 114 #[.int .i64 (md : Int), .slice A0 n0 c0, .int .i64 (kp : Int)]) (hk : kp ≤ n0) (hc : n0 ≤ c0) (hb : A0 = none → c0 = 0) (hn0 : n0 ≤ 1000000000)
 (hI : Ints w A n c l) (hmd : md ≤ 1000000000) (hl : ∀ x ∈ l, -9223372036854775808 ≤ x ∧ x ≤ 9223372036854775807) :
 Calls Tryz.prog 71 #[.pointer (some ⟨b, 0, none⟩), .slice A n c] w fun e w' => e = .returned (.tuple #[]) ∧ Whole w' b 114 #[.int .i64 (md : Int), .slice A0 (left l md n0 kp) c0, .int .i64 (left l md n0 kp : Nat)] ∧ Zc (fun k => k = b) w w' := by
 obtain ⟨n1, hn1⟩ : ∃ n1, left l md n0 kp = n1 := ⟨_, rfl⟩
 have hle := Zdp l md hk
 rw [hn1] at hle ⊢
 have HCL := hid (show ∀ w', Grows w w' → w'.cell? ⟨b, 0, none⟩ = some (.int .i64 (md : Int)) ∧ w'.cell? ⟨b, 1, none⟩ = some (.slice A0 n0 c0) ∧ w'.cell? ⟨b, 2, none⟩ = some (.int .i64 (kp : Int)) from fun w' hg => ⟨hg.cellq h, hg.cellq h, hg.cellq h⟩)
 have c0' := (HCL.out w (Grows.refl w)).1
 have HW := hid h
 have e1 : IntKind.i64.wrap ((n0 : Int) - (kp : Int)) = (n0 : Int) - kp := IntWalk.i64_in _ (by omega)
 have hmr : -9223372036854775808 ≤ more l md ∧ more l md ≤ 9223372036854775807 := by
  unfold more
  split
  ·omega
  ·rename_i h0
   have hlt : md % l.length < l.length := Nat.mod_lt _ (by omega)
   rw [List.getD_eq_getElem?_getD, List.getElem?_eq_getElem hlt]
   exact hl _ (List.getElem_mem hlt)
 have e2 : IntKind.i64.wrap ((kp : Int) + min (max (more l md) 0) ((n0 : Int) - kp)) = (n1 : Int) := by
  rw [IntWalk.i64_in _ (by omega), ← hn1]
  unfold left
  omega
 have q1 : n1 ≤ c0 := by omega
 have HB := hid (And.intro hb (And.intro hle (And.intro hk hc)))
 have HMI := hid hI
 have HM := hid (And.intro hmd hl)
 -- the two ways
 rcases Nat.eq_zero_or_pos n with hz | hz
 ·subst hz
  have hl0 : l = [] := List.eq_nil_of_length_eq_zero hI.len
  have em : more l md = 0 := by rw [hl0]; rfl
  rw [em, show max (0 : Int) 0 = 0 from rfl] at e2
  clear h hk hc hb hn0 hI hmd hl hn1 hle hl0 em hmr
  go_enter Tryz.func71, Tryz.ntmps71
  go_wp2_with (fail)
  refine Zo mixed (by kernel_rfl) ?_
  iterate 14 (refine q_op' (v := ?_) (a' := ?_) (by rfl) ?_ ?_ ?_
              rotate_left 2
              ·intro w' hC
               obtain ⟨z0, z1, z2⟩ := HCL.out w' hC
               clear hC
               go_simp
               try with_reducible rfl
              ·simp only [Pu]
               try rfl)
  refine wpQuiet_nil ?_
  intro w2 hC
  have HCw2 := hid hC
  clear hC
  go_wp2_with (fail)
  have HC4 := hid (fun w' (hg : Grows w2 w') => HCL.out w' (HCw2.out.trans hg))
  generalize min (0 : Int) ((n0 : Int) - (kp : Int)) = g0 at *
  have q0 : (0 : Int) ≤ (n1 : Int) := by omega
  have q2 : (n1 : Int) ≤ (c0 : Int) := by omega
  refine Zh (E := Grows) 14 [Za (.pointer (some ⟨b, 0, none⟩)), Za (.pointer (some ⟨b, 0, none⟩)), Za (.pointer (some ⟨b, 0, none⟩)), Za (.pointer (some ⟨b, 1, none⟩)), Za (.slice A0 n0 c0), Za (.pointer (some ⟨b, 0, none⟩)), Za (.pointer (some ⟨b, 0, none⟩)), Za (.pointer (some ⟨b, 2, none⟩)), Za (.int .i64 (kp : Int)), Za (.int .i64 g0), Za (.int .i64 (n1 : Int)), Za (.slice A0 n1 c0), Za (.pointer (some ⟨b, 0, none⟩)), Za (.pointer (some ⟨b, 1, none⟩))] mixed (by kernel_rfl) (fun _ _ _ => Grows.trans) (Ze _) ?_
  simp only [List.take_succ_cons, List.take_zero, List.drop_succ_cons, List.drop_zero]
  iterate 14
   refine f_val _ (by rfl) ?_ ?_
   ·intro w' hC; obtain ⟨z0, z1, z2⟩ := HC4.out w' hC; clear hC; go_simp
   simp only [Pu]
  refine Zv ?_
  intro w3 hC hks
  have HCw3 := hid hC
  clear hC hks
  have c1 := (HC4.out w3 HCw3.out).2.1
  have k3 := HCw3.out.whole (HCw2.out.whole HW.out)
  have f1 := k3.free 1
  have HK3 := hid k3
  clear k3
  go_wp2_with (fail)
  have k4 : Whole (w3.setCell ⟨b, 1, none⟩ (.slice A0 n1 c0)) b 114 #[.int .i64 (md : Int), .slice A0 n1 c0, .int .i64 (kp : Int)] := HK3.out.put 1 _
  have HKE := hid (Zfx _ k4)
  have HK4 := hid k4
  clear k4
  refine HKE.out.mono ?_
  rintro e w5 ⟨rfl, hw5⟩
  have HW5 := hid hw5
  clear hw5 HKE
  go_wp2_with (fail)
  go_end0
  rw [HW5.out]
  exact ⟨rfl, HK4.out.put 2 _, ((Zc.grows (own := fun k => k = b) (HCw2.out.trans HCw3.out)).setCell (p := ⟨b, 1, none⟩) rfl _).setCell (p := ⟨b, 2, none⟩) rfl _⟩
 ·obtain ⟨ad, x, rfl, hx1, hx2, hx3⟩ := hI.get (j := md % n) (Nat.mod_lt _ hz)
  have em : more l md = x := by
   unfold more
   rw [if_neg (by rw [hI.len]; omega), hI.len, List.getD_eq_getElem?_getD, hx2]
   rfl
  rw [em] at e2 hmr
  have r1 : (md : Int).tmod (n : Int) = ((md % n : Nat) : Int) := by
   rw [Int.tmod_eq_emod_of_nonneg (by omega)]
   rfl
  have r2 : ((md % n : Nat) : Int) < (n : Int) := by have := Nat.mod_lt md hz; omega
  have r3 : (0 : Int) ≤ ((md % n : Nat) : Int) := by omega
  have z1 : (0 : Int) < (n : Int) := by omega
  have z2 : ((n : Int) == 0) = false := by rw [beq_eq_false_iff_ne]; omega
  have z3 : ¬ (n : Int) = 0 := by omega
  have r4 : IntKind.i64.wrap ((md % n : Nat) : Int) = ((md % n : Nat) : Int) := IntWalk.i64_in _ (by have := Nat.mod_le md n; omega)
  generalize hq : md % n = q at *
  have HQ := hid hq
  clear h hk hc hb hn0 hI hmd hl hn1 hle em hmr hx2 hx3 hq hz
  go_enter Tryz.func71, Tryz.ntmps71
  go_wp2_with (fail)
  refine Zo mixed (by kernel_rfl) ?_
  iterate 14 (refine q_op' (v := ?_) (a' := ?_) (by rfl) ?_ ?_ ?_
              rotate_left 2
              ·intro w' hC
               obtain ⟨z0, z1, z2⟩ := HCL.out w' hC
               clear hC
               go_simp
               try with_reducible rfl
              ·simp only [Pu]
               try rfl)
  refine wpQuiet_nil ?_
  intro w2 hC
  have HCw2 := hid hC
  clear hC
  go_wp2_with (fail)
  have HC4 := hid (fun w' (hg : Grows w2 w') => HCL.out w' (HCw2.out.trans hg))
  generalize min (max x 0) ((n0 : Int) - (kp : Int)) = g0 at *
  have q0 : (0 : Int) ≤ (n1 : Int) := by omega
  have q2 : (n1 : Int) ≤ (c0 : Int) := by omega
  refine Zh (E := Grows) 14 [Za (.pointer (some ⟨b, 0, none⟩)), Za (.pointer (some ⟨b, 0, none⟩)), Za (.pointer (some ⟨b, 0, none⟩)), Za (.pointer (some ⟨b, 1, none⟩)), Za (.slice A0 n0 c0), Za (.pointer (some ⟨b, 0, none⟩)), Za (.pointer (some ⟨b, 0, none⟩)), Za (.pointer (some ⟨b, 2, none⟩)), Za (.int .i64 (kp : Int)), Za (.int .i64 g0), Za (.int .i64 (n1 : Int)), Za (.slice A0 n1 c0), Za (.pointer (some ⟨b, 0, none⟩)), Za (.pointer (some ⟨b, 1, none⟩))] mixed (by kernel_rfl) (fun _ _ _ => Grows.trans) (Ze _) ?_
  simp only [List.take_succ_cons, List.take_zero, List.drop_succ_cons, List.drop_zero]
  iterate 14
   refine f_val _ (by rfl) ?_ ?_
   ·intro w' hC; obtain ⟨z0, z1, z2⟩ := HC4.out w' hC; clear hC; go_simp
   simp only [Pu]
  refine Zv ?_
  intro w3 hC hks
  have HCw3 := hid hC
  clear hC hks
  have c1 := (HC4.out w3 HCw3.out).2.1
  have k3 := HCw3.out.whole (HCw2.out.whole HW.out)
  have f1 := k3.free 1
  have HK3 := hid k3
  clear k3
  go_wp2_with (fail)
  have k4 : Whole (w3.setCell ⟨b, 1, none⟩ (.slice A0 n1 c0)) b 114 #[.int .i64 (md : Int), .slice A0 n1 c0, .int .i64 (kp : Int)] := HK3.out.put 1 _
  have HKE := hid (Zfx _ k4)
  have HK4 := hid k4
  clear k4
  refine HKE.out.mono ?_
  rintro e w5 ⟨rfl, hw5⟩
  have HW5 := hid hw5
  clear hw5 HKE
  go_wp2_with (fail)
  go_end0
  rw [HW5.out]
  exact ⟨rfl, HK4.out.put 2 _, ((Zc.grows (own := fun k => k = b) (HCw2.out.trans HCw3.out)).setCell (p := ⟨b, 1, none⟩) rfl _).setCell (p := ⟨b, 2, none⟩) rfl _⟩
end Go.Proofs.YtlldcogkcjnejaaGreat
