/-
  The iterator of package fold: each key's last hint, the least key first.
-/
import Derived.Test.YtnnkioekjobbmaaFdLls
import Derived.Test.YtnnkioekjobbmaaRangeR
import Derived.Test.YtnnkioekjobbmaaFactsTailIn
import Derived.OwnWalkIn
import Derived.TacticsInMore
import Derived.LoopNIn
import Derived.LoopIn
namespace Go.Proofs.Ytnnkioekjobbmaa
open Go.RowKit
set_option linter.unusedVariables false
set_option linter.unusedSimpArgs false
attribute [local go_sem] Oper.semAt_some
attribute [local irreducible] wpF

theorem round_wideF {P : Program} {n k l f : Nat} {tmps : Array Value} {assign body : Code} {w : World} {R : Ending → World → Prop} (h : RoundIn Fence.wide n P l f tmps assign body w R) : RoundIn Fence.wide k P l f tmps assign body w R :=
  ⟨h.1, fun c cs _ => h.2 c cs fun d hd => by cases hd⟩
theorem lasts_any (A : Option Addr) (N c : Nat) (w : World) : Calls Try.prog 19 #[.slice A N c] w fun e w' =>
    e = .returned (.func (.func 21) #[] #[.pointer (some ⟨w.heap.size, 0, none⟩)]) ∧ w.alloc (.cells #[.slice A N c] 23) = w' := by
  go_enter Try.func19, Try.ntmps19
  go_wp2_with (fail)
  go_ret
  exact ⟨rfl, rfl⟩
/-- What there is while lists are put. -/
structure PutJ (W0 wr : World) (hb : Nat) (K : Nat → Prop) (ls : List (List Ht)) (j : Nat) (m : List El) : Prop where
  heap : HpK W0 wr hb m K
  isH : IsHeap ltE m.length m
  nos : ∀ y ∈ m, y.no < j
  has : ∀ i g, HasE m i g ↔ i < j ∧ Has ls i g
  count : countE m ≤ manyL (ls.take j)
  few : m.length ≤ j
theorem has_next {ls : List (List Ht)} {j : Nat} {l : List Ht} (hl : ls[j]? = some l) {m m' : List El} (h : ∀ i g, HasE m i g ↔ i < j ∧ Has ls i g) (hm : ∀ i g, HasE m' i g ↔ HasE m i g ∨ (i = j ∧ g ∈ l)) (i : Nat) (g : Ht) : HasE m' i g ↔ i < j + 1 ∧ Has ls i g := by
  rw [hm, h]
  constructor
  · rintro (⟨h1, h2⟩ | ⟨rfl, h2⟩)
    · exact ⟨by omega, h2⟩
    · exact ⟨by omega, l, hl, h2⟩
  · rintro ⟨h1, x, hx, hg⟩
    by_cases e : i = j
    · subst e
      rw [hl] at hx
      injection hx with hx
      subst hx
      exact .inr ⟨rfl, hg⟩
    · exact .inl ⟨by omega, x, hx, hg⟩
/-- What there is between two rounds. -/
structure TakeJ (W0 wr : World) (hb : Nat) (K : Nat → Prop) (N many : Nat) (pre : List (Nat × Ht)) (m : List El) : Prop where
  heap : HpK W0 wr hb m K
  isH : IsHeap ltE m.length m
  nos : ∀ i g, HasE m i g → i < N
  count : pre.length + countE m ≤ many
theorem HpK.good {W0 w : World} {h : Nat} {l : List El} {K : Nat → Prop} (hk : HpK W0 w h l K) : GoodE l ∧ l.length ≤ 1000000 ∧ Grows W0 w := by
  obtain ⟨A, c, q, _⟩ := hk
  exact ⟨q.good, q.few, q.old⟩
theorem count_few {l : List El} (h : GoodE l) : l.length ≤ countE l := by
  induction l with
  | nil => exact Nat.zero_le _
  | cons x r ih =>
    have h1 := ih h.tail
    have h2 := List.length_pos_iff.2 (h.each x List.mem_cons_self).1
    rw [countE_cons, List.length_cons]
    omega
set_option maxRecDepth 100000 in
set_option maxHeartbeats 8000000 in
theorem lasts_gives (n : Nat) (W0 : World) (tb : Nat) (A : Option Addr) (N c : Nat) (sl : List Sl3) (ls : List (List Ht)) (w : World) (htb : Boxed w tb 23 (.slice A N c)) (h0w : Grows W0 w) (hx : Lls W0 A N c sl ls) (hup : ∀ l ∈ ls, Rising l) (hN : N ≤ 1000) (hmany : manyL ls ≤ 100000) :
    GivesR Try.prog n 21 #[.pointer (some ⟨tb, 0, none⟩)] (fun p : Nat × Ht => #[.int .i64 (p.1 : Int), htV p.2]) (fun pre x => pre.length < 100000 ∧ x.1 < N) (fun k => k < W0.heap.size ∨ k = tb) (fun ps => ps = foldP ls) w := by
  intro l J Jx W R0 hW hD hlt hJ hJx hY h0
  have hltR := hlt _ _ _ h0
  obtain ⟨W1, hW1⟩ : ∃ V, W.alloc (.cells #[] 51) = V := ⟨_, rfl⟩
  have g1 : Grows W W1 := hW1 ▸ grows_alloc _ _
  have s1 : W1.heap.size = W.heap.size + 1 := by rw [← hW1, World.size_alloc]
  have o1 : W1.ownsRow W0.heap.size 51 1 (.slice (some ⟨W.heap.size, 0, none⟩) 0 0) 0 [] := by rw [← hW1]; exact World.ownsRow_lit W #[] 0 (Nat.le_trans h0w.size hW.size) (Nat.zero_le _) rfl
  obtain ⟨W2, hW2⟩ : ∃ V, W1.alloc (.cells #[.slice (some ⟨W.heap.size, 0, none⟩) 0 0] 49) = V := ⟨_, rfl⟩
  have g2 : Grows W1 W2 := hW2 ▸ grows_alloc _ _
  have s2 : W2.heap.size = W.heap.size + 2 := by rw [← hW2, World.size_alloc, s1]
  have b2 : Boxed W2 W1.heap.size 49 (.slice (some ⟨W.heap.size, 0, none⟩) 0 0) := by rw [← hW2]; exact Boxed.new _ _ _
  obtain ⟨hb, hhb⟩ : ∃ b, W1.heap.size = b := ⟨_, rfl⟩
  rw [hhb] at b2
  have gw2 : Grows W W2 := Grows.trans g1 g2
  have hk0 : HpK W0 W2 hb [] (fun k => W.heap.size ≤ k ∧ ¬ R0 k) :=
    ⟨some ⟨W.heap.size, 0, none⟩, 0, ⟨b2, owned_grow o1 g2, by simp [Value.ownBlock]; omega, fun x hx => (by cases hx), fun x hx => (by cases hx), GoodE.nil, Nat.zero_le _, (h0w.trans hW).trans gw2⟩, ⟨by omega, fun q => by have := hltR _ q; omega⟩, fun k hk => by simp [Value.ownBlock] at hk; subst hk; exact ⟨Nat.le_refl _, fun q => by have := hltR _ q; omega⟩, fun x hx => (by cases hx)⟩
  have ct := ((Grows.trans hW gw2).block _ htb.lt).trans htb
  have ctb := Boxed.cell ct
  have HH := Lib.hid (show (∀ k, R0 k → W0.heap.size ≤ k) ∧ W0.heap.size ≤ W.heap.size ∧ (∀ k, R0 k → k < W.heap.size) ∧ Grows W W2 ∧ W2.heap.size = W.heap.size + 2 from ⟨fun k hk => by have := hD k hk; omega, Nat.le_trans h0w.size hW.size, hltR, gw2, s2⟩)
  have HP0 := Lib.hid (show PutJ W0 W2 hb (fun k => W.heap.size ≤ k ∧ ¬ R0 k) ls 0 [] from ⟨hk0, isheapE_nil, fun y hy => (by cases hy), fun i g => ⟨fun ⟨y, hy, _⟩ => (by cases hy), fun q => by omega⟩, by simp [countE, manyL], Nat.le_refl _⟩)
  have HX := Lib.hid (And.intro hx (And.intro hup (And.intro hN hmany)))
  have HJ := Lib.hid (And.intro hlt (And.intro hJ hJx))
  have H0 := Lib.hid h0
  have HY := Lib.hid hY
  have hNN : N ≤ 1000 := hN
  clear hltR g1 o1 g2 b2 gw2 hk0 ct hx hup hN hmany hlt hJ hJx h0 hY hD hW h0w htb s2 s1
  show CallsIn _ _ _ _ #[.func (.yield l) #[] #[], .pointer (some ⟨tb, 0, none⟩)] _ _
  refine callsIn_of_wp Try.func21 rfl trivial ?_ rfl
  simp only [Try.ntmps21, List.size_toArray, List.length_cons, List.length_nil, Nat.reduceAdd, Nat.reduceSub, Array.replicate_succ, Array.replicate_zero, List.push_toArray, List.append_toArray, List.nil_append, List.cons_append]
  gi_wp2_with (first | rw [hW1] | rw [hW2] | fail)
  clear hW1 hW2 ctb
  gi_loopw [4, 5, 12] (fun _ _ vi wr => ∃ (j : Nat) (m : List El), j ≤ N ∧ vi = .int .i64 (j : Int) ∧ Hid (PutJ W0 wr hb (fun k => W.heap.size ≤ k ∧ ¬ R0 k) ls j m) ∧ Hid (J [] R0 wr ∧ Grows W wr)) (fun _ _ vi _ => N - (intOf vi).toNat)
  case atStart => exact ⟨0, [], Nat.zero_le _, rfl, HP0, Lib.hid ⟨HJ.out.2.1 _ _ _ _ H0.out (Spares.grows HH.out.2.2.2.1), HH.out.2.2.2.1⟩⟩
  case round =>
    obtain ⟨j, m, hj, rfl, HM, HJJ⟩ := hrel
    by_cases hltj : j < N
    · obtain ⟨ad, B, k, q, li, rfl, hli, hts, hbl, hcell⟩ := HX.out.1.at hltj
      have c0 := hcell wr HM.out.heap.good.2.2
      have k0 : (0 : Int) ≤ (j : Int) := by omega
      have k1 : (j : Int) < (N : Int) := by omega
      have hm1 := Whole.made wr 53 #[.int .i64 (j : Int), .slice B k q]
      have hg1 := grows_alloc wr (.cells #[.int .i64 (j : Int), .slice B k q] 53)
      obtain ⟨V1, hV1⟩ : ∃ V, wr.alloc (.cells #[.int .i64 (j : Int), .slice B k q] 53) = V := ⟨_, rfl⟩
      rw [hV1] at hm1 hg1
      have hz1 : V1.heap.size = wr.heap.size + 1 := by rw [← hV1, World.size_alloc]
      obtain ⟨bx, hbx⟩ : ∃ b, wr.heap.size = b := ⟨_, rfl⟩
      rw [hbx] at hm1
      have hWwr := HJJ.out.2.size
      have HV := Lib.hid (And.intro hm1 (And.intro hg1 (And.intro hz1 (And.intro hbx (And.intro hts (And.intro hli hWwr))))))
      clear hcell hts hbl hm1 hg1 hz1 hWwr hli
      by_cases hk : k = 0
      · subst hk
        have HPU := Lib.hid (put_none HV.out.1 hb)
        gi_wp2_with (first | rw [hV1] | fail)
        clear hV1
        refine ⟨trivial, (fun h => by cases h), (callsIn_wide.2 HPU.out).mono ?_⟩
        rintro e w2 ⟨rfl, rfl⟩
        have HLI := Lib.hid (show li = [] from List.eq_nil_of_length_eq_zero HV.out.2.2.2.2.1.len)
        gi_wp2_with (fail)
        go_roundw
        case rel =>
          obtain ⟨hm1, hg1, hz1, hbx, hts, hli, hWwr⟩ := HV.out
          have hM := HM.out
          refine ⟨j + 1, m, by omega, by first | rfl | go_num, Lib.hid ⟨hM.heap.grow hg1, hM.isH, fun y hy => Nat.lt_succ_of_lt (hM.nos y hy), has_next hli hM.has fun i g => ⟨.inl, fun q => q.elim id fun q => by rw [HLI.out] at q; cases q.2⟩, ?_, Nat.le_succ_of_le hM.few⟩, Lib.hid ⟨HJ.out.2.1 _ _ _ _ HJJ.out.1 (Spares.grows hg1), Grows.trans HJJ.out.2 hg1⟩⟩
          rw [manyL_take hli]
          exact Nat.le_trans hM.count (Nat.le_add_right _ _)
        case measure => simp [intOf]; omega
      · obtain ⟨ab, rfl⟩ : ∃ ab, B = some ab := by
          rcases B with _ | ab
          · have h1 := HV.out.2.2.2.2.1.bare rfl
            have h2 := HV.out.2.2.2.2.1.cap
            omega
          · exact ⟨ab, rfl⟩
        have HPU := Lib.hid (show Calls Try.prog 22 #[.pointer (some ⟨hb, 0, none⟩), .pointer (some ⟨bx, 0, none⟩)] V1 fun e w' => e = .returned (.tuple #[]) ∧ ∃ l', l'.Perm (m ++ [(⟨j, bx, ab, k, q, li⟩ : El)]) ∧ IsHeap ltE l'.length l' ∧ HpK W0 w' hb l' (fun k => W.heap.size ≤ k ∧ ¬ R0 k) ∧ Spares (fun k => W.heap.size ≤ k ∧ ¬ R0 k) V1 w' from by
          obtain ⟨hm1, hg1, hz1, hbx, hts, hli, hWwr⟩ := HV.out
          have hM := HM.out
          obtain ⟨d1, d2, d3, d4, d5⟩ := HH.out
          have hlb : li.length ≤ 100000 := Nat.le_trans (manyL_mem hli) HX.out.2.2.2
          refine put_some ⟨j, bx, ab, k, q, li⟩ ((hM.heap.wider fun y hy hk => ⟨hk, by dsimp only; omega⟩).grow hg1) (fun y hy => ⟨by omega, fun h => by have := d3 y h; omega⟩) (fun y hy => by omega) ⟨hm1, hts, by dsimp only; omega, by have := hts.len; dsimp only; omega, by dsimp only; omega⟩ ⟨by dsimp only; omega, fun h => by have := d3 _ h; dsimp only at this; omega⟩ ?_ (by have := hM.few; omega) hM.isH
          refine hM.heap.good.1.snoc (fun e => by have := hts.len; dsimp only at e; rw [e] at this; simp at this; omega) (HX.out.2.1 li (List.mem_of_getElem? hli)) fun y hy => ⟨by have := hM.nos y hy; dsimp only; omega, ?_⟩
          obtain ⟨A9, c9, hp9, _⟩ := hM.heap
          have := (hp9.els y hy).blk.lt
          dsimp only
          omega)
        gi_wp2_with (first | rw [hV1] | fail)
        clear hV1
        refine ⟨trivial, (fun h => by cases h), (callsIn_wide.2 HPU.out).mono ?_⟩
        rintro e w2 ⟨rfl, m2, u1, u2, u3, u4⟩
        have HU := Lib.hid (And.intro u1 (And.intro u2 (And.intro u3 u4)))
        clear u1 u2 u3 u4 HPU
        gi_wp2_with (fail)
        go_roundw
        case rel =>
          obtain ⟨hm1, hg1, hz1, hbx, hts, hli, hWwr⟩ := HV.out
          obtain ⟨u1, u2, u3, u4⟩ := HU.out
          have hM := HM.out
          obtain ⟨d1, d2, d3, d4, d5⟩ := HH.out
          refine ⟨j + 1, m2, by omega, by first | rfl | go_num, Lib.hid ⟨u3, u2, fun y hy => ?_, has_next hli hM.has fun i g => HasE.snoc u1 i g, ?_, ?_⟩, Lib.hid ⟨HJ.out.2.1 _ _ _ _ (HJ.out.2.1 _ _ _ _ HJJ.out.1 (Spares.grows hg1)) u4, ?_⟩⟩
          · rcases List.mem_append.1 (u1.mem_iff.1 hy) with hy | hy
            · exact Nat.lt_succ_of_lt (hM.nos y hy)
            · rw [List.mem_singleton.1 hy]
              exact Nat.lt_succ_self _
          · rw [countE_perm u1, countE_snoc, manyL_take hli]
            exact Nat.add_le_add_right hM.count _
          · have := u1.length_eq
            have h2 := hM.few
            rw [List.length_append, List.length_singleton] at this
            omega
          · exact ((Spares.grows (own := fun k => W.heap.size ≤ k ∧ ¬ R0 k) (Grows.trans HJJ.out.2 hg1)).trans u4).below (Nat.le_refl _) fun k hk h => by omega
        case measure => simp [intOf]; omega
    · obtain rfl : N = j := by omega
      gi_wp2_with (fail)
      have hst : PutJ W0 wr hb (fun k => W.heap.size ≤ k ∧ ¬ R0 k) ls N m := HM.out
      have HT0 := Lib.hid (show TakeJ W0 wr hb (fun k => W.heap.size ≤ k ∧ ¬ R0 k) N (manyL ls) [] m from ⟨hst.heap, hst.isH, fun i g h => ((hst.has i g).1 h).1, by
        have h1 := hst.count
        rw [List.take_of_length_le (by have := HX.out.1.len; omega)] at h1
        simpa using h1⟩)
      have HT1 := Lib.hid (show ToldM (Has ls) (HasE m) [] from (ToldM.start (Has ls)).same fun i g => by
        rw [hst.has]
        refine ⟨fun q => q.2, fun q => ⟨?_, q⟩⟩
        obtain ⟨x, hx, _⟩ := q
        have := (List.getElem?_eq_some_iff.1 hx).1
        have := HX.out.1.len
        omega)
      have HT2 := Lib.hid (show J [] R0 wr ∧ W.heap.size ≤ wr.heap.size from ⟨HJJ.out.1, HJJ.out.2.size⟩)
      clear hst HM HJJ HP0 hltj hj
      gi_loopw [6, 7] (fun _ _ wr => ∃ (pre : List (Nat × Ht)) (R : Nat → Prop) (m : List El), Hid (TakeJ W0 wr hb (fun k => W.heap.size ≤ k ∧ ¬ R k) N (manyL ls) pre m) ∧ Hid (ToldM (Has ls) (HasE m) pre) ∧ Hid (J pre R wr ∧ W.heap.size ≤ wr.heap.size) ∧ Hid (∀ k, R k → R0 k ∨ W.heap.size ≤ k)) (fun _ _ wr => heapLeft wr hb)
      case atStart => exact ⟨[], R0, m, HT0, HT1, HT2, Lib.hid fun k h => .inl h⟩
      case round =>
        clear HT0 HT1 HT2
        clear m
        obtain ⟨pre, R, m, HM, HTO, HJJ, HRR⟩ := hrel
        obtain ⟨AR, mc, hp, hq⟩ := HM.out.heap
        have ch := hp.box.cell
        obtain ⟨mn, hmn⟩ : ∃ k, m.length = k := ⟨_, rfl⟩
        rw [hmn] at ch
        have HMN := Lib.hid hmn
        have HLEN := Lib.hid (len_heap AR mn mc wr)
        have hRk : ∀ k, R k → k < wr.heap.size := HJ.out.1 _ _ _ HJJ.out.1
        have HKK := Lib.hid (show (∀ k, wr.heap.size ≤ k → W.heap.size ≤ k ∧ ¬ R k) ∧ (∀ k, (W.heap.size ≤ k ∧ ¬ R k) → W0.heap.size ≤ k) ∧ ∀ k, R k → W0.heap.size ≤ k ∧ k < wr.heap.size from
          ⟨fun k hk => ⟨by have := HJJ.out.2; omega, fun h => by have := hRk k h; omega⟩, fun k hk => by have := HH.out.2.1; omega, fun k hk => ⟨by
            rcases HRR.out k hk with h | h
            · exact HH.out.1 k h
            · have := HH.out.2.1; omega, hRk k hk⟩⟩)
        clear hp hq hmn hRk
        by_cases hz : mn = 0
        · subst hz
          gi_wp2_with (fail)
          refine ⟨trivial, (fun h => by cases h), (callsIn_wide.2 HLEN.out).mono ?_⟩
          rintro e w2 ⟨rfl, hw2⟩
          obtain rfl : wr = w2 := hw2.symm
          gi_wp2_with (fail)
          go_end0
          obtain rfl : m = [] := List.eq_nil_of_length_eq_zero HMN.out
          exact ⟨⟨_, rfl⟩, .inl ⟨pre, R, (HTO.out.done fun i g ⟨y, hy, _⟩ => by cases hy).uniq (fold_all HX.out.2.1), HJJ.out.1⟩⟩
        have hpos : (0 : Int) < (mn : Int) := by omega
        have HTK := Lib.hid (take_any HM.out.heap HKK.out.1 HKK.out.2.1 (by have := HMN.out; omega) HM.out.isH)
        gi_wp2_with (fail)
        refine ⟨trivial, (fun h => by cases h), (callsIn_wide.2 HLEN.out).mono ?_⟩
        rintro e w2 ⟨rfl, hw2⟩
        obtain rfl : wr = w2 := hw2.symm
        gi_wp2_with (fail)
        refine ⟨trivial, (fun h => by cases h), (callsIn_wide.2 HTK.out).mono ?_⟩
        rintro e w3 ⟨x, ⟨q0, q1, q2, q3⟩, m2, rfl, t1, t2, t3, t4, t5⟩
        obtain ⟨xo, hxo⟩ : ∃ k, x.no = k := ⟨_, rfl⟩
        rw [hxo]
        dsimp only [htV]
        have hm4 := Whole.made w3 33 #[.int .i64 q0, .string ⟨q1.toArray⟩, .int .i64 q2, .int .i64 q3]
        have hg4 := grows_alloc w3 (.cells #[.int .i64 q0, .string ⟨q1.toArray⟩, .int .i64 q2, .int .i64 q3] 33)
        obtain ⟨W4, hW4⟩ : ∃ V, w3.alloc (.cells #[.int .i64 q0, .string ⟨q1.toArray⟩, .int .i64 q2, .int .i64 q3] 33) = V := ⟨_, rfl⟩
        rw [hW4] at hm4 hg4
        have hz4 : W4.heap.size = w3.heap.size + 1 := by rw [← hW4, World.size_alloc]
        obtain ⟨b7, hb7⟩ : ∃ b, w3.heap.size = b := ⟨_, rfl⟩
        rw [hb7] at hm4
        have e0 := hm4.cell 0
        have e1 := hm4.cell 1
        have e2 := hm4.cell 2
        have e3 := hm4.cell 3
        simp only [List.getElem?_toArray, List.getElem?_cons_zero, List.getElem?_cons_succ] at e0 e1 e2 e3
        have hj4 : J pre R W4 := HJ.out.2.1 _ _ _ _ (HJ.out.2.1 _ _ _ _ HJJ.out.1 t5) (Spares.grows hg4)
        have hcnt := t1.count
        have hcount := HM.out.count
        have hxN : xo < N := hxo ▸ HM.out.nos _ _ t1.here
        have h100 := HX.out.2.2.2
        obtain ⟨fn, tmps, assign, body, hy, hR⟩ := HY.out pre R (xo, ⟨q0, q1, q2, q3⟩) W4 hj4 ⟨by omega, hxN⟩
        dsimp only [htV] at hy
        have HRD := Lib.hid hR
        have H4 := Lib.hid (And.intro t1 (And.intro t2 (And.intro t3 (And.intro t4 (And.intro t5 (And.intro hm4 (And.intro hg4 (And.intro hz4 (And.intro hb7 hxo)))))))))
        clear t1 t2 t3 t4 t5 hm4 hg4 hz4 hj4 hcnt hcount hxN h100 hR hxo
        gi_wp2_with (first | rw [hW4] | fail)
        refine ⟨(fun h => by cases h), RoundIn.mono (round_wideF HRD.out) ?_⟩
        clear hW4 e0 e1 e2 e3 hy ch
        rintro e W5 ⟨R', hr', hs', (⟨rfl, hj'⟩ | ⟨rfl, hjx⟩)⟩
        · have HN := Lib.hid (show TakeJ W0 W5 hb (fun k => (W.heap.size ≤ k ∧ ¬ R' k) ∧ k ≠ b7) N (manyL ls) (pre ++ [(xo, ⟨q0, q1, q2, q3⟩)]) m2 ∧ Near (HasE m) q1 m2 ∧ countE m2 + 1 ≤ countE m ∧ Whole W5 b7 33 #[.int .i64 q0, .string ⟨q1.toArray⟩, .int .i64 q2, .int .i64 q3] ∧ W.heap.size ≤ W5.heap.size ∧ (∀ k, R' k → R0 k ∨ W.heap.size ≤ k) from by
            obtain ⟨t1, t2, t3, t4, t5, hm4, hg4, hz4, hb7, hxo⟩ := H4.out
            have hJs := HJJ.out.2
            have hsz : wr.heap.size ≤ w3.heap.size := t5.size
            have hnb7 : ¬ R b7 := fun h => by have := (HKK.out.2.2 b7 h).2; omega
            have a1 : HpK W0 W4 hb m2 (fun k => ((W.heap.size ≤ k ∧ ¬ R k) ∧ k < W4.heap.size) ∧ k ≠ b7) := (t4.wider (K' := fun k => ((W.heap.size ≤ k ∧ ¬ R k) ∧ k < W4.heap.size) ∧ k ≠ b7) fun k hk hkk => ⟨⟨hkk, by omega⟩, by omega⟩).grow hg4
            have a2 : HpK W0 W5 hb m2 (fun k => ((W.heap.size ≤ k ∧ ¬ R k) ∧ k < W4.heap.size) ∧ k ≠ b7) := a1.off hs' (fun k _ hk h => hk.1.1.2 h) fun k h => (HKK.out.2.2 k h).1
            have a3 : HpK W0 W5 hb m2 (fun k => (W.heap.size ≤ k ∧ ¬ R' k) ∧ k ≠ b7) := a2.wider fun k _ hk => ⟨⟨hk.1.1.1, fun h => by
              rcases hr' k h with h | h
              · exact hk.1.1.2 h
              · omega⟩, hk.2⟩
            refine ⟨⟨a3, t3, fun i g h => HM.out.nos i g ((t1.has i g).1 h).1, ?_⟩, Near.start t1, by have := t1.count; omega, (hs'.same b7 hm4.lt hnb7).trans hm4, by have := hs'.size; omega, fun k hk => ?_⟩
            · have h1 := t1.count
              have h2 := HM.out.count
              rw [List.length_append, List.length_singleton]
              omega
            · rcases hr' k hk with h | h
              · exact HRR.out k h
              · exact .inr (by omega))
          have HTO2 := Lib.hid (show ToldM (Has ls) (fun j g => HasE m j g ∧ g.key ≠ q1) (pre ++ [(xo, ⟨q0, q1, q2, q3⟩)]) ∧ (∀ j g, HasE m j g → bytesBefore g.key q1 = false) from by
            obtain ⟨t1, t2, t3, t4, t5, hm4, hg4, hz4, hb7, hxo⟩ := H4.out
            rw [← hxo]
            exact ⟨HTO.out.next HM.out.heap.good.1 t2 t1, fun j g hj => by
              have h1 := (least HM.out.heap.good.1 t2 hj).1
              have h2 := t1.key
              dsimp only at h2
              rwa [h2] at h1⟩)
          have HJ5 := Lib.hid hj'
          have HME := Lib.hid (show ∀ w', heapLeft w' hb < countE m → heapLeft w' hb < heapLeft wr hb from fun w' h => by rw [HM.out.heap.left]; exact h)
          obtain ⟨pre2, hpre2⟩ : ∃ p, pre ++ [(xo, (⟨q0, q1, q2, q3⟩ : Ht))] = p := ⟨_, rfl⟩
          rw [hpre2] at HN HTO2 HJ5
          clear hr' hs' hj' HRD hpre2 H4
          clear HKK
          gi_wp2_with (fail)
          gi_loopw [] (fun wr2 => ∃ (m3 : List El), Hid (TakeJ W0 wr2 hb (fun k => (W.heap.size ≤ k ∧ ¬ R' k) ∧ k ≠ b7) N (manyL ls) pre2 m3) ∧ Hid (Near (HasE m) q1 m3 ∧ countE m3 + 1 ≤ countE m) ∧ Hid (J pre2 R' wr2 ∧ Whole wr2 b7 33 #[.int .i64 q0, .string ⟨q1.toArray⟩, .int .i64 q2, .int .i64 q3] ∧ W.heap.size ≤ wr2.heap.size)) (fun wr2 => heapLeft wr2 hb)
          case atStart => exact ⟨m2, Lib.hid HN.out.1, Lib.hid ⟨HN.out.2.1, HN.out.2.2.1⟩, Lib.hid ⟨HJ5.out, HN.out.2.2.2.1, HN.out.2.2.2.2.1⟩⟩
          case round =>
            obtain ⟨m3, HM3, HN3, HJ3⟩ := hrel
            obtain ⟨AR, mc, hp, hq⟩ := HM3.out.heap
            have hbw := hp.box
            obtain ⟨mn, hmn⟩ : ∃ k, m3.length = k := ⟨_, rfl⟩
            rw [hmn] at hbw
            have HB5 := Lib.hid (show Whole wr hb 49 #[.slice AR mn mc] ∧ Whole wr b7 33 #[.int .i64 q0, .string ⟨q1.toArray⟩, .int .i64 q2, .int .i64 q3] from ⟨hbw, HJ3.out.2.1⟩)
            have HMN := Lib.hid hmn
            have hRk : ∀ k, R' k → k < wr.heap.size := HJ.out.1 _ _ _ HJ3.out.1
            have HKK := Lib.hid (show (∀ k, wr.heap.size ≤ k → (W.heap.size ≤ k ∧ ¬ R' k) ∧ k ≠ b7) ∧ ∀ k, ((W.heap.size ≤ k ∧ ¬ R' k) ∧ k ≠ b7) → W0.heap.size ≤ k from
              ⟨fun k hk => ⟨⟨by have := HJ3.out.2.2; omega, fun h => by have := hRk k h; omega⟩, by have := HJ3.out.2.1.lt; omega⟩, fun k hk => by have := HH.out.2.1; omega⟩)
            have hdone : ∀ w', Grows wr w' → (∀ j g, HasE m3 j g → g.key ≠ q1) → TakeJ W0 w' hb (fun k => W.heap.size ≤ k ∧ ¬ R' k) N (manyL ls) pre2 m3 ∧ ToldM (Has ls) (HasE m3) pre2 ∧ (J pre2 R' w' ∧ W.heap.size ≤ w'.heap.size) ∧ heapLeft w' hb < countE m := fun w' hg hk => by
              have hk3 := HM3.out.heap.grow hg
              exact ⟨⟨hk3.wider fun k _ hk => hk.1, HM3.out.isH, HM3.out.nos, HM3.out.count⟩, HTO2.out.1.same (HN3.out.1.done hk), ⟨HJ.out.2.1 _ _ _ _ HJ3.out.1 (Spares.grows hg), Nat.le_trans HJ3.out.2.2 hg.size⟩, by rw [hk3.left]; have := HN3.out.2; omega⟩
            have HDONE := Lib.hid hdone
            have hsub : ∀ k, R' k → R0 k ∨ W.heap.size ≤ k := HN.out.2.2.2.2.2
            have HSUB := Lib.hid hsub
            clear hbw hRk hdone hsub
            by_cases hz : mn = 0
            · subst hz
              clear hp hq hmn
              have HPOS := Lib.hid (show True from trivial)
              gi_wp2_with (fail)
              refine wpIn_wide.2 ?_
              refine wp_region_facts (E := Grows) [valFact (.pointer (some ⟨hb, 0, none⟩)), valFact (.pointer (some ⟨hb, 0, none⟩)), valFact (.slice AR 0 mc), valFact (.int .i64 0), valFact (.bool false), valFact (.bool false), valFact undef, valFact undef, valFact undef, valFact undef, valFact undef, valFact undef, valFact undef, valFact (.bool false)] (by kernel_rfl) (by kernel_rfl) (fun _ _ _ => Grows.trans) (grows_drew _) ?_
              refine f_val (.pointer (some ⟨hb, 0, none⟩)) (by rfl) ?_ ?_
              · intro w' hC; clear hC; go_simp
              simp only [Act.put, List.setIfInBounds_toArray, List.set_cons_zero, List.set_cons_succ]
              refine f_val (.pointer (some ⟨hb, 0, none⟩)) (by rfl) ?_ ?_
              · intro w' hC; clear hC; go_simp
              simp only [Act.put, List.setIfInBounds_toArray, List.set_cons_zero, List.set_cons_succ]
              refine f_val (.slice AR 0 mc) (by rfl) ?_ ?_
              · intro w' hC; have z0 := (hC.whole HB5.out.1).cell 0; simp only [List.getElem?_toArray, List.getElem?_cons_zero, List.getElem?_cons_succ] at z0; clear hC; go_simp
              simp only [Act.put, List.setIfInBounds_toArray, List.set_cons_zero, List.set_cons_succ]
              refine f_call 23 #[.slice AR 0 mc] (.int .i64 0) (by rfl) (by intro w' hC; clear hC; go_simp) ?_ ?_
              · intro w' hC _; exact (len_heap AR 0 mc w').mono fun e w2 hh => ⟨hh.1, hh.2 ▸ Grows.refl _⟩
              simp only [Act.put, List.setIfInBounds_toArray, List.set_cons_zero, List.set_cons_succ]
              refine f_val (.bool false) (by rfl) ?_ ?_
              · intro w' hC; have k0 := HPOS.out; clear hC; go_simp
              simp only [Act.put, List.setIfInBounds_toArray, List.set_cons_zero, List.set_cons_succ]
              refine f_val (.bool false) (by rfl) ?_ ?_
              · intro w' hC; clear hC; go_simp
              simp only [Act.put, List.setIfInBounds_toArray, List.set_cons_zero, List.set_cons_succ]
              refine f_skip (by rfl) ?_
              simp only [Act.put, List.setIfInBounds_toArray, List.set_cons_zero, List.set_cons_succ]
              refine f_skip (by rfl) ?_
              simp only [Act.put, List.setIfInBounds_toArray, List.set_cons_zero, List.set_cons_succ]
              refine f_skip (by rfl) ?_
              simp only [Act.put, List.setIfInBounds_toArray, List.set_cons_zero, List.set_cons_succ]
              refine f_skip (by rfl) ?_
              simp only [Act.put, List.setIfInBounds_toArray, List.set_cons_zero, List.set_cons_succ]
              refine f_skip (by rfl) ?_
              simp only [Act.put, List.setIfInBounds_toArray, List.set_cons_zero, List.set_cons_succ]
              refine f_skip (by rfl) ?_
              simp only [Act.put, List.setIfInBounds_toArray, List.set_cons_zero, List.set_cons_succ]
              refine f_skip (by rfl) ?_
              simp only [Act.put, List.setIfInBounds_toArray, List.set_cons_zero, List.set_cons_succ]
              refine f_val (.bool false) (by rfl) ?_ ?_
              · intro w' hC; clear hC; go_simp
              simp only [Act.put, List.setIfInBounds_toArray, List.set_cons_zero, List.set_cons_succ]
              refine wpF_end ?_
              intro w9 hC hks
              have HCw9 := Lib.hid hC
              clear hC hks
              obtain rfl : m3 = [] := List.eq_nil_of_length_eq_zero HMN.out
              have HD := Lib.hid (HDONE.out w9 HCw9.out fun j g ⟨y, hy, _⟩ => by cases hy)
              gi_wp2_with (fail)
              have hmeas := HME.out w9 HD.out.2.2.2
              go_roundw
              case rel => exact ⟨pre2, R', [], Lib.hid HD.out.1, Lib.hid HD.out.2.1, Lib.hid HD.out.2.2.1, HSUB⟩
              case measure => exact hmeas
            have hpos : (0 : Int) < (mn : Int) := by omega
            have HPOS := Lib.hid (show 0 < mn from by omega)
            have hl0 : 0 < m3.length := by omega
            obtain ⟨tk, htk⟩ : ∃ k, keyE m3[0]! = k := ⟨_, rfl⟩
            have HKEY := Lib.hid (show ∀ w', Grows wr w' → Calls Try.prog 25 #[.slice AR mn mc] w' fun e w2 => e = .returned (.string ⟨tk.toArray⟩) ∧ w2 = w' from fun w' hg => by
              have := key_any (hp.grow hg) hl0
              rw [hmn, htk] at this
              exact this)
            have hmem : m3[0]! ∈ m3 := by rw [getElem!_pos m3 0 hl0]; exact List.getElem_mem _
            have hmin : ∀ y ∈ m3, ltE y m3[0]! = false := fun y hy => by
              obtain ⟨i, hi, rfl⟩ := List.mem_iff_getElem.1 hy
              have := heap_min swoE HM3.out.isH i hi
              rwa [getElem!_pos m3 i hi] at this
            have HTOP := Lib.hid (And.intro hmem (And.intro hmin (And.intro htk hl0)))
            clear hp hq hmn hpos hl0 htk hmem hmin
            rcases hee : (tk == q1) with _ | _
            · have HEQ := Lib.hid hee
              clear hee
              gi_wp2_with (fail)
              refine wpIn_wide.2 ?_
              refine wp_region_facts (E := Grows) [valFact (.pointer (some ⟨hb, 0, none⟩)), valFact (.pointer (some ⟨hb, 0, none⟩)), valFact (.slice AR mn mc), valFact (.int .i64 (mn : Int)), valFact (.bool true), valFact (.bool true), valFact (.pointer (some ⟨hb, 0, none⟩)), valFact (.pointer (some ⟨hb, 0, none⟩)), valFact (.slice AR mn mc), valFact (.string ⟨tk.toArray⟩), valFact (.pointer (some ⟨b7, 1, none⟩)), valFact (.string ⟨q1.toArray⟩), valFact (.bool false), valFact (.bool false)] (by kernel_rfl) (by kernel_rfl) (fun _ _ _ => Grows.trans) (grows_drew _) ?_
              refine f_val (.pointer (some ⟨hb, 0, none⟩)) (by rfl) ?_ ?_
              · intro w' hC; clear hC; go_simp
              simp only [Act.put, List.setIfInBounds_toArray, List.set_cons_zero, List.set_cons_succ]
              refine f_val (.pointer (some ⟨hb, 0, none⟩)) (by rfl) ?_ ?_
              · intro w' hC; clear hC; go_simp
              simp only [Act.put, List.setIfInBounds_toArray, List.set_cons_zero, List.set_cons_succ]
              refine f_val (.slice AR mn mc) (by rfl) ?_ ?_
              · intro w' hC; have z0 := (hC.whole HB5.out.1).cell 0; simp only [List.getElem?_toArray, List.getElem?_cons_zero, List.getElem?_cons_succ] at z0; clear hC; go_simp
              simp only [Act.put, List.setIfInBounds_toArray, List.set_cons_zero, List.set_cons_succ]
              refine f_call 23 #[.slice AR mn mc] (.int .i64 (mn : Int)) (by rfl) (by intro w' hC; clear hC; go_simp) ?_ ?_
              · intro w' hC _; exact (len_heap AR mn mc w').mono fun e w2 hh => ⟨hh.1, hh.2 ▸ Grows.refl _⟩
              simp only [Act.put, List.setIfInBounds_toArray, List.set_cons_zero, List.set_cons_succ]
              refine f_val (.bool true) (by rfl) ?_ ?_
              · intro w' hC; have k0 := HPOS.out; clear hC; go_simp
              simp only [Act.put, List.setIfInBounds_toArray, List.set_cons_zero, List.set_cons_succ]
              refine f_val (.bool true) (by rfl) ?_ ?_
              · intro w' hC; clear hC; go_simp
              simp only [Act.put, List.setIfInBounds_toArray, List.set_cons_zero, List.set_cons_succ]
              refine f_val (.pointer (some ⟨hb, 0, none⟩)) (by rfl) ?_ ?_
              · intro w' hC; clear hC; go_simp
              simp only [Act.put, List.setIfInBounds_toArray, List.set_cons_zero, List.set_cons_succ]
              refine f_val (.pointer (some ⟨hb, 0, none⟩)) (by rfl) ?_ ?_
              · intro w' hC; clear hC; go_simp
              simp only [Act.put, List.setIfInBounds_toArray, List.set_cons_zero, List.set_cons_succ]
              refine f_val (.slice AR mn mc) (by rfl) ?_ ?_
              · intro w' hC; have z0 := (hC.whole HB5.out.1).cell 0; simp only [List.getElem?_toArray, List.getElem?_cons_zero, List.getElem?_cons_succ] at z0; clear hC; go_simp
              simp only [Act.put, List.setIfInBounds_toArray, List.set_cons_zero, List.set_cons_succ]
              refine f_call 25 #[.slice AR mn mc] (.string ⟨tk.toArray⟩) (by rfl) (by intro w' hC; clear hC; go_simp) ?_ ?_
              · intro w' hC _; exact (HKEY.out w' hC).mono fun e w2 hh => ⟨hh.1, hh.2 ▸ Grows.refl _⟩
              simp only [Act.put, List.setIfInBounds_toArray, List.set_cons_zero, List.set_cons_succ]
              refine f_val (.pointer (some ⟨b7, 1, none⟩)) (by rfl) ?_ ?_
              · intro w' hC; clear hC; go_simp
              simp only [Act.put, List.setIfInBounds_toArray, List.set_cons_zero, List.set_cons_succ]
              refine f_val (.string ⟨q1.toArray⟩) (by rfl) ?_ ?_
              · intro w' hC; have z1 := (hC.whole HB5.out.2).cell 1; simp only [List.getElem?_toArray, List.getElem?_cons_zero, List.getElem?_cons_succ] at z1; clear hC; go_simp
              simp only [Act.put, List.setIfInBounds_toArray, List.set_cons_zero, List.set_cons_succ]
              refine f_val (.bool false) (by rfl) ?_ ?_
              · intro w' hC; have k0 := HEQ.out; clear hC; go_simp
              simp only [Act.put, List.setIfInBounds_toArray, List.set_cons_zero, List.set_cons_succ]
              refine f_val (.bool false) (by rfl) ?_ ?_
              · intro w' hC; clear hC; go_simp
              simp only [Act.put, List.setIfInBounds_toArray, List.set_cons_zero, List.set_cons_succ]
              refine wpF_end ?_
              intro w9 hC hks
              have HCw9 := Lib.hid hC
              clear hC hks
              have HD := Lib.hid (HDONE.out w9 HCw9.out (far_keys HN3.out.1 HM3.out.heap.good.1 HTO2.out.2 HTOP.out.1 HTOP.out.2.1 (by rw [HTOP.out.2.2.1]; have := HEQ.out; simpa using this)))
              gi_wp2_with (fail)
              have hmeas := HME.out w9 HD.out.2.2.2
              go_roundw
              case rel => exact ⟨pre2, R', m3, Lib.hid HD.out.1, Lib.hid HD.out.2.1, Lib.hid HD.out.2.2.1, HSUB⟩
              case measure => exact hmeas
            · have HEQ := Lib.hid hee
              clear hee
              gi_wp2_with (fail)
              refine wpIn_wide.2 ?_
              refine wp_region_facts (E := Grows) [valFact (.pointer (some ⟨hb, 0, none⟩)), valFact (.pointer (some ⟨hb, 0, none⟩)), valFact (.slice AR mn mc), valFact (.int .i64 (mn : Int)), valFact (.bool true), valFact (.bool true), valFact (.pointer (some ⟨hb, 0, none⟩)), valFact (.pointer (some ⟨hb, 0, none⟩)), valFact (.slice AR mn mc), valFact (.string ⟨tk.toArray⟩), valFact (.pointer (some ⟨b7, 1, none⟩)), valFact (.string ⟨q1.toArray⟩), valFact (.bool true), valFact (.bool true)] (by kernel_rfl) (by kernel_rfl) (fun _ _ _ => Grows.trans) (grows_drew _) ?_
              refine f_val (.pointer (some ⟨hb, 0, none⟩)) (by rfl) ?_ ?_
              · intro w' hC; clear hC; go_simp
              simp only [Act.put, List.setIfInBounds_toArray, List.set_cons_zero, List.set_cons_succ]
              refine f_val (.pointer (some ⟨hb, 0, none⟩)) (by rfl) ?_ ?_
              · intro w' hC; clear hC; go_simp
              simp only [Act.put, List.setIfInBounds_toArray, List.set_cons_zero, List.set_cons_succ]
              refine f_val (.slice AR mn mc) (by rfl) ?_ ?_
              · intro w' hC; have z0 := (hC.whole HB5.out.1).cell 0; simp only [List.getElem?_toArray, List.getElem?_cons_zero, List.getElem?_cons_succ] at z0; clear hC; go_simp
              simp only [Act.put, List.setIfInBounds_toArray, List.set_cons_zero, List.set_cons_succ]
              refine f_call 23 #[.slice AR mn mc] (.int .i64 (mn : Int)) (by rfl) (by intro w' hC; clear hC; go_simp) ?_ ?_
              · intro w' hC _; exact (len_heap AR mn mc w').mono fun e w2 hh => ⟨hh.1, hh.2 ▸ Grows.refl _⟩
              simp only [Act.put, List.setIfInBounds_toArray, List.set_cons_zero, List.set_cons_succ]
              refine f_val (.bool true) (by rfl) ?_ ?_
              · intro w' hC; have k0 := HPOS.out; clear hC; go_simp
              simp only [Act.put, List.setIfInBounds_toArray, List.set_cons_zero, List.set_cons_succ]
              refine f_val (.bool true) (by rfl) ?_ ?_
              · intro w' hC; clear hC; go_simp
              simp only [Act.put, List.setIfInBounds_toArray, List.set_cons_zero, List.set_cons_succ]
              refine f_val (.pointer (some ⟨hb, 0, none⟩)) (by rfl) ?_ ?_
              · intro w' hC; clear hC; go_simp
              simp only [Act.put, List.setIfInBounds_toArray, List.set_cons_zero, List.set_cons_succ]
              refine f_val (.pointer (some ⟨hb, 0, none⟩)) (by rfl) ?_ ?_
              · intro w' hC; clear hC; go_simp
              simp only [Act.put, List.setIfInBounds_toArray, List.set_cons_zero, List.set_cons_succ]
              refine f_val (.slice AR mn mc) (by rfl) ?_ ?_
              · intro w' hC; have z0 := (hC.whole HB5.out.1).cell 0; simp only [List.getElem?_toArray, List.getElem?_cons_zero, List.getElem?_cons_succ] at z0; clear hC; go_simp
              simp only [Act.put, List.setIfInBounds_toArray, List.set_cons_zero, List.set_cons_succ]
              refine f_call 25 #[.slice AR mn mc] (.string ⟨tk.toArray⟩) (by rfl) (by intro w' hC; clear hC; go_simp) ?_ ?_
              · intro w' hC _; exact (HKEY.out w' hC).mono fun e w2 hh => ⟨hh.1, hh.2 ▸ Grows.refl _⟩
              simp only [Act.put, List.setIfInBounds_toArray, List.set_cons_zero, List.set_cons_succ]
              refine f_val (.pointer (some ⟨b7, 1, none⟩)) (by rfl) ?_ ?_
              · intro w' hC; clear hC; go_simp
              simp only [Act.put, List.setIfInBounds_toArray, List.set_cons_zero, List.set_cons_succ]
              refine f_val (.string ⟨q1.toArray⟩) (by rfl) ?_ ?_
              · intro w' hC; have z1 := (hC.whole HB5.out.2).cell 1; simp only [List.getElem?_toArray, List.getElem?_cons_zero, List.getElem?_cons_succ] at z1; clear hC; go_simp
              simp only [Act.put, List.setIfInBounds_toArray, List.set_cons_zero, List.set_cons_succ]
              refine f_val (.bool true) (by rfl) ?_ ?_
              · intro w' hC; have k0 := HEQ.out; clear hC; go_simp
              simp only [Act.put, List.setIfInBounds_toArray, List.set_cons_zero, List.set_cons_succ]
              refine f_val (.bool true) (by rfl) ?_ ?_
              · intro w' hC; clear hC; go_simp
              simp only [Act.put, List.setIfInBounds_toArray, List.set_cons_zero, List.set_cons_succ]
              refine wpF_end ?_
              intro w9 hC hks
              have HCw9 := Lib.hid hC
              clear hC hks
              have HTK := Lib.hid (take_any (HM3.out.heap.grow HCw9.out) (fun k hk => HKK.out.1 k (Nat.le_trans HCw9.out.size hk)) HKK.out.2 HTOP.out.2.2.2 HM3.out.isH)
              gi_wp2_with (fail)
              refine ⟨trivial, (fun h => by cases h), (callsIn_wide.2 HTK.out).mono ?_⟩
              rintro e w10 ⟨x, hd, m4, rfl, t1, t2, t3, t4, t5⟩
              have HT := Lib.hid (show TakeJ W0 w10 hb (fun k => (W.heap.size ≤ k ∧ ¬ R' k) ∧ k ≠ b7) N (manyL ls) pre2 m4 ∧ (Near (HasE m) q1 m4 ∧ countE m4 + 1 ≤ countE m) ∧ (J pre2 R' w10 ∧ Whole w10 b7 33 #[.int .i64 q0, .string ⟨q1.toArray⟩, .int .i64 q2, .int .i64 q3] ∧ W.heap.size ≤ w10.heap.size) ∧ heapLeft w10 hb < heapLeft wr hb from by
                have hc := t1.count
                have hkx : hd.key = q1 := by
                  have h1 := ltE_no.1 (HTOP.out.2.1 x t1.mem)
                  have h2 := ltE_no.1 (t2 _ HTOP.out.1)
                  rw [← t1.key]
                  have h3 : tk = q1 := by have := HEQ.out; simpa using this
                  rw [← h3, ← HTOP.out.2.2.1]
                  refine Classical.byContradiction fun hne => ?_
                  have h4 := fbef_total h1.1 hne
                  rw [h2.1] at h4
                  cases h4
                refine ⟨⟨t4, t3, fun i g h => HM3.out.nos i g ((t1.has i g).1 h).1, by have := HM3.out.count; omega⟩, ⟨HN3.out.1.take t1 hkx, by have := HN3.out.2; omega⟩, ⟨?_, ?_, ?_⟩, ?_⟩
                · exact HJ.out.2.1 _ _ _ _ (HJ.out.2.1 _ _ _ _ HJ3.out.1 (Spares.grows HCw9.out)) (t5.wider fun k _ hk => hk.1)
                · exact (t5.same b7 (HCw9.out.whole HJ3.out.2.1).lt fun h => h.2 rfl).trans (HCw9.out.whole HJ3.out.2.1)
                · exact Nat.le_trans HJ3.out.2.2 (Nat.le_trans HCw9.out.size t5.size)
                · rw [t4.left, HM3.out.heap.left]
                  omega)
              clear t1 t2 t3 t4 t5 HTK
              have hmeas := HT.out.2.2.2
              gi_wp2_with (fail)
              go_roundw
              case rel => exact ⟨m4, Lib.hid HT.out.1, Lib.hid HT.out.2.1, Lib.hid HT.out.2.2.1⟩
              case measure => exact hmeas
        · gi_wp2_with (fail)
          refine bodyPost_ret (results_none rfl _ _ _) rfl ?_
          exact ⟨⟨_, rfl⟩, .inr ⟨_, _, hjx⟩⟩
end Go.Proofs.Ytnnkioekjobbmaa
