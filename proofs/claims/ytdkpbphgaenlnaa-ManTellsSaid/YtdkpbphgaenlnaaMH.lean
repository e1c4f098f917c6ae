/-
  Texts that the statements' proofs lean on, one behind the other.
-/
import Derived.Test.YtdkpbphgaenlnaaMF
import Derived.Test.YtdkpbphgaenlnaaMY
import Derived.Test.YtdkpbphgaenlnaaIter
import Derived.Test.YtdkpbphgaenlnaaFlat
import Derived.Test.YtdkpbphgaenlnaaME
/-
  Segments: the records of bodies, one by one.
-/
namespace Go.Proofs.Ytdkpbphgaenlnaa
open Go.RowKit Go.Shelf
set_option linter.unusedVariables false
set_option linter.unusedSimpArgs false
attribute [local go_sem] Oper.semAt_some

/-- What was there in A is as it was. -/
def Lowly (A w : World) : Prop := A.heap.size ≤ w.heap.size ∧ ∀ k, k < A.heap.size → w.heap[k]? = A.heap[k]?
theorem Lowly.grows {A w : World} (h : Grows A w) : Lowly A w := ⟨h.size, fun k hk => h.block k hk⟩
theorem Lowly.trans {A w w' : World} (h : Lowly A w) (hs : w.heap.size ≤ w'.heap.size) (hk : ∀ k, k < A.heap.size → w'.heap[k]? = w.heap[k]?) : Lowly A w' := ⟨Nat.le_trans h.1 hs, fun k h1 => (hk k h1).trans (h.2 k h1)⟩
theorem Row.lowly {A w : World} {X : Option Addr} {n : Nat} {xs : List Value} (h : Row A A.heap.size X n xs) (hl : Lowly A w) : Row w w.heap.size X n xs :=
  ⟨h.len, fun k v hv => by
    obtain ⟨ad, h1, h2, h3⟩ := h.spot k v hv
    exact ⟨ad, h1, Nat.lt_of_lt_of_le h2 hl.1, by rw [World.cell?_of_block (hl.2 (ad.add k).block (by rw [add_block]; exact h2))]; exact h3⟩⟩
theorem Sl.lowly {A w : World} {X : Option Addr} {n c : Nat} {bs : List UInt8} (h : Sl A X n c bs) (hl : Lowly A w) : Sl w X n c bs := ⟨Row.lowly h.bytes hl, h.cap, h.bare⟩
theorem Items.lowly {A w : World} {X : Option Addr} {n c : Nat} {ts : List It} (h : Items A X n c ts) (hl : Lowly A w) : Items w X n c ts := by
  obtain ⟨h1, h2, h3, hs, h4, h5, h6⟩ := h
  exact ⟨h1, h2, h3, hs, h4, h5.lowly hl, fun i x t hx ht => (h6 i x t hx ht).lowly hl⟩

/-- All but the first of items. -/
theorem items_tail {w : World} {b g n c : Nat} {ts : List It} {hs : List Hd} (hown : w.ownsRow b 167 3 (.slice (some ⟨g, 0, none⟩) n c) n (itCells ts hs)) (hbod : Bodies w b hs ts) (hl : ts.length = n) (h1 : 1 ≤ n) : Items w (some ⟨g, 3, none⟩) (n - 1) (c - 1) (ts.drop 1) := by
  obtain ⟨hh, hb⟩ := hbod
  have hit := Items.owned hh.symm hl hown fun i x t hx ht => Sl.owned' (hb i x t hx ht)
  have hcap := hit.cap
  match ts, hs, hl, hh, hown, hb with
  | t :: ts, h :: hs, hl, hh, hown, hb =>
    simp only [List.length_cons, List.drop_succ_cons, List.drop_zero] at *
    have hlt : g < w.heap.size := (hown.lt g rfl).2
    have hll : ts.length = hs.length := by omega
    refine ⟨by omega, by omega, fun e => (by cases e), hs, by omega, ⟨by rw [itCells_length _ _ hll]; omega, fun k v hv => ⟨_, rfl, hlt, ?_⟩⟩, fun i x y hx hy => Sl.owned' (hb (i + 1) x y hx hy)⟩
    have hk : k < 3 * ts.length := by
      have := (List.getElem?_eq_some_iff.1 hv).1
      rw [itCells_length _ _ hll] at this
      exact this
    rw [show (⟨g, 3, none⟩ : Addr).add k = ⟨g, 3 + k, none⟩ by unfold Addr.add; split <;> simp_all, hown.cellAt (3 + k) (by omega)]
    show (itV t h ++ itCells ts hs)[3 + k]? = _
    rw [List.getElem?_append_right (by simp [itV]), show 3 + k - (itV t h).length = k by simp [itV]]
    exact hv
  | [], _, hl, _, _, _ => simp only [List.length_nil] at hl; omega
  | _ :: _, [], _, hh, _, _ => simp at hh
theorem records_fn (A : Option Addr) (n c : Nat) (w : World) : Calls Try.prog 75 #[.slice A n c] w fun e w' => e = .returned (.func (.func 108) #[] #[.pointer (some ⟨w.heap.size, 0, none⟩)]) ∧ w.alloc (.cells #[.slice A n c] 117) = w' := by
  go_enter Try.func75, Try.ntmps75
  go_wp2
  go_ret
  exact ⟨rfl, rfl⟩

/-- A body, and where its record lies. -/
abbrev Rx := It × (Option Addr × Nat × Nat) × (Option Addr × Nat × Nat)
def rcOf (bs : List UInt8) : Rc := (getR bs).getD Rc.none
def rxVals (x : Rx) : Array Value := #[.agg #[.int .i64 (x.1.1 : Nat), .int .i64 (x.1.2.1 : Nat), .int .i64 (rcOf x.1.2.2).kind, .string ⟨(rcOf x.1.2.2).key.toArray⟩, .int .i64 (rcOf x.1.2.2).id, .int .i64 (rcOf x.1.2.2).no, .int .i64 (rcOf x.1.2.2).size, .slice x.2.1.1 x.2.1.2.1 x.2.1.2.2, .slice x.2.2.1 x.2.2.2.1 x.2.2.2.2], .bool (getR x.1.2.2).isSome]
def ToldR (ts : List It) (pre : List Rx) (x : Rx) (W0 W1 : World) : Prop := ts[pre.length]? = some x.1 ∧ RcOwn W1 W0.heap.size x.2.1.1 x.2.1.2.1 x.2.1.2.2 x.2.2.1 x.2.2.2.1 x.2.2.2.2 (rcOf x.1.2.2)

set_option maxRecDepth 100000 in
set_option maxHeartbeats 4000000 in
theorem records_gives (n : Nat) (Bl : Nat) (A : Option Addr) (N c : Nat) (ts : List It) (wA w : World) (hI : Items wA A N c ts) (hl : Lowly wA w) (hb : Boxed w Bl 117 (.slice A N c)) (hN : N ≤ 1000000) (hsm : ∀ t ∈ ts, t.2.2.length ≤ 1000000) :
    Gives Try.prog n 108 #[.pointer (some ⟨Bl, 0, none⟩)] rxVals (ToldR ts) (fun k => k < wA.heap.size ∨ k = Bl) (fun xs => xs.map (·.1) = ts) (fun _ => True) w := by
  intro l J Jx W hW hJ hJx hY h0
  have hlen := hI.len
  have HI := Lib.hid (And.intro hI (And.intro hlen hsm))
  have hbW : Boxed W Bl 117 (.slice A N c) := (hW.block _ hb.lt).trans hb
  have HLW := Lib.hid (show Lowly wA W from hl.trans hW.size fun k hk => hW.block k (Nat.lt_of_lt_of_le hk hl.1))
  have hbc := hbW.cell
  clear hI hl hb hsm hlen hW hbW
  show CallsIn _ _ _ _ #[.func (.yield l) #[] #[], .pointer (some ⟨Bl, 0, none⟩)] _ _
  refine callsIn_of_wp Try.func108 rfl trivial ?_ rfl
  simp only [Try.ntmps108, List.size_toArray, List.length_cons, List.length_nil, Nat.reduceAdd, Nat.reduceSub, Array.replicate_succ, Array.replicate_zero, List.push_toArray, List.append_toArray, List.nil_append, List.cons_append]
  gi_wp2_with (fail)
  gi_loopw [9] (fun i wr => ∃ (pre : List Rx) (j : Nat), j ≤ N ∧ i = .int .i64 (j : Nat) ∧ Hid (pre.length = j ∧ pre.map (·.1) = ts.take j) ∧ J pre wr ∧ Hid (Lowly wA wr)) (fun i _ => N - (intOf i).toNat)
  case atStart => exact ⟨[], 0, Nat.zero_le _, rfl, Lib.hid ⟨rfl, by simp⟩, h0, HLW⟩
  case round =>
    obtain ⟨pre, j, hj, rfl, HP, hJp, HL⟩ := hrel
    by_cases hlt : j < N
    · have hltI : (j : Int) < (N : Int) := by omega
      have hj0 : (0 : Int) ≤ (j : Int) := by omega
      have hwj : IntKind.i64.wrap ((j : Int) + 1) = (j : Int) + 1 := IntWalk.i64_in _ (by omega)
      obtain ⟨ad, B, m, dd, hA, c1, c2, c3, hsl⟩ := (HI.out.1.lowly HL.out).spot hlt
      subst hA
      obtain ⟨⟨t1, t2, tb⟩, ht⟩ : ∃ t, ts.getD j (0, 0, []) = t := ⟨_, rfl⟩
      rw [ht] at c1 c2 hsl
      dsimp only at c1 c2 hsl
      have htj : ts[j]? = some (t1, t2, tb) := by
        have h1 : j < ts.length := by rw [HI.out.2.1]; exact hlt
        rw [List.getElem?_eq_getElem h1, ← ht, List.getD_eq_getElem?_getD, List.getElem?_eq_getElem h1]
        rfl
      have htl : tb.length ≤ 1000000 := HI.out.2.2 _ (List.mem_of_getElem? htj)
      have k1 := c1 wr (Grows.refl _)
      have k2 := c2 wr (Grows.refl _)
      have k3 := c3 wr (Grows.refl _)
      have hm := hsl.len
      have HC := Lib.hid (get_any B m dd tb (wr.alloc (.cells #[.int .i64 (t1 : Nat), .int .i64 (t2 : Nat), .slice B m dd] 167)) (hsl.grow (grows_alloc _ _)) (by omega))
      have HT := Lib.hid htj
      have HG1 := Lib.hid (grows_alloc wr (.cells #[.int .i64 (t1 : Nat), .int .i64 (t2 : Nat), .slice B m dd] 167))
      have HM1 := Lib.hid (Whole.made wr 167 #[.int .i64 (t1 : Nat), .int .i64 (t2 : Nat), .slice B m dd])
      have HLT := Lib.hid hlt
      clear c1 c2 c3 hsl ht htj htl hm
      gi_wp2_with (fail)
      refine ⟨trivial, (fun h => by cases h), (callsIn_wide.2 HC.out).mono ?_⟩
      rintro e w2 ⟨LA, ln, lc, BA, bn, bc, rfl, hr, hb⟩
      have hg2 := Grows.trans HG1.out hb
      have hM2 := Grows.whole hb HM1.out
      have hr0 := hr.from (show wr.heap.size ≤ (wr.alloc (.cells #[.int .i64 (t1 : Nat), .int .i64 (t2 : Nat), .slice B m dd] 167)).heap.size from HG1.out.size)
      obtain ⟨ro, hro⟩ : ∃ q, rcOf tb = q := ⟨_, rfl⟩
      obtain ⟨so, hso⟩ : ∃ q, (getR tb).isSome = q := ⟨_, rfl⟩
      have hro' : (getR tb).getD Rc.none = ro := hro
      rw [hro'] at hr0
      have HRV := Lib.hid (And.intro hro hso)
      have hga := grows_alloc w2 (.cells #[.int .i64 ro.kind, .string ⟨ro.key.toArray⟩, .int .i64 ro.id, .int .i64 ro.no, .int .i64 ro.size, .slice LA ln lc, .slice BA bn bc] 59)
      have hM3 := Whole.made w2 59 #[.int .i64 ro.kind, .string ⟨ro.key.toArray⟩, .int .i64 ro.id, .int .i64 ro.no, .int .i64 ro.size, .slice LA ln lc, .slice BA bn bc]
      have hM2' := hga.whole hM2
      have y0 := hM2'.cell 0
      have y1 := hM2'.cell 1
      have z0 := hM3.cell 0
      have z1 := hM3.cell 1
      have z2 := hM3.cell 2
      have z3 := hM3.cell 3
      have z4 := hM3.cell 4
      have z5 := hM3.cell 5
      have z6 := hM3.cell 6
      simp only [List.getElem?_toArray, List.getElem?_cons_zero, List.getElem?_cons_succ] at y0 y1 z0 z1 z2 z3 z4 z5 z6
      have htold : ToldR ts pre ((t1, t2, tb), (LA, ln, lc), (BA, bn, bc)) wr (w2.alloc (.cells #[.int .i64 ro.kind, .string ⟨ro.key.toArray⟩, .int .i64 ro.id, .int .i64 ro.no, .int .i64 ro.size, .slice LA ln lc, .slice BA bn bc] 59)) :=
        ⟨by rw [HP.out.1]; exact HT.out, by dsimp only; rw [hro]; exact hr0.grow hga⟩
      obtain ⟨fn, tmps, assign, body, hy, hR⟩ := hY pre ((t1, t2, tb), (LA, ln, lc), (BA, bn, bc)) wr _ hJp (Grows.trans hg2 hga) htold
      dsimp only [rxVals] at hy
      rw [hro, hso] at hy
      have HGW := Lib.hid (Grows.trans hg2 hga)
      have HR := Lib.hid hR
      rw [hro', hso]
      clear hr hb hg2 hM2 hr0 hro hso hro' hga hM3 hM2' htold hR
      gi_wp2_with (fail)
      refine ⟨(fun h => by cases h), RoundIn.mono (round_wide HR.out) ?_⟩
      rintro e W3 (⟨rfl, hJ3, hsz3, hk3⟩ | ⟨rfl, hJx3⟩)
      · have hL1 := HL.out.trans HGW.out.size fun k hk => HGW.out.block k (Nat.lt_of_lt_of_le hk HL.out.1)
        have HL3 := Lib.hid (hL1.trans hsz3 fun k hk => hk3 k (Nat.lt_of_lt_of_le hk hL1.1) (.inl (.inl hk)))
        have HJ3 := Lib.hid hJ3
        have HPS := Lib.hid (show (pre ++ [(((t1, t2, tb), (LA, ln, lc), (BA, bn, bc)) : Rx)]).length = j + 1 ∧ (pre ++ [(((t1, t2, tb), (LA, ln, lc), (BA, bn, bc)) : Rx)]).map (·.1) = ts.take (j + 1) from ⟨by rw [List.length_append, HP.out.1]; rfl, by rw [List.map_append, HP.out.2, List.take_add_one, HT.out]; rfl⟩)
        clear hL1 hsz3 hk3 hJ3 y0 y1 z0 z1 z2 z3 z4 z5 z6 hy k1 k2 k3
        gi_wp2_with (fail)
        go_roundw
        case rel => exact ⟨_, j + 1, HLT.out, by go_num, HPS, HJ3.out, HL3⟩
        case measure => simp only [intOf]; have := HLT.out; omega
      · have HX := Lib.hid hJx3
        clear hJx3 y0 y1 z0 z1 z2 z3 z4 z5 z6 hy k1 k2 k3
        gi_wp2_with (fail)
        refine bodyPost_ret (results_none rfl _ _ _) rfl ?_
        exact ⟨⟨_, rfl⟩, .inr ⟨_, trivial, HX.out⟩⟩
    · obtain rfl : j = N := by omega
      gi_wp2_with (fail)
      go_end0
      refine ⟨⟨_, rfl⟩, .inl ⟨pre, ?_, hJp⟩⟩
      rw [HP.out.2, List.take_of_length_le (by rw [HI.out.2.1]; exact Nat.le_refl _)]
end Go.Proofs.Ytdkpbphgaenlnaa

/-
  Slices of api.Found: nine cells each.
-/
namespace Go.Proofs.Ytdkpbphgaenlnaa
open Go.RowKit
set_option linter.unusedVariables false
set_option linter.unusedSimpArgs false
theorem infoFnd : (Try.prog.info? 63).map (fun i => (i.zero, i.size, i.bytes)) = some (some (.agg #[.int .i64 0, .int .i64 0, .int .i64 0, .string ⟨#[]⟩, .int .i64 0, .int .i64 0, .int .i64 0, .slice none 0 0, .slice none 0 0]), 9, 112) := by kernel_rfl
/-- What was found: where, how long its frame is, the record. -/
abbrev Fn := Nat × Nat × Rc
abbrev Fh := (Option Addr × Nat × Nat) × (Option Addr × Nat × Nat)
def fnE (p : Fn × Fh) : List Value := [.int .i64 (p.1.1 : Nat), .int .i64 (p.1.2.1 : Nat), .int .i64 p.1.2.2.kind, .string ⟨p.1.2.2.key.toArray⟩, .int .i64 p.1.2.2.id, .int .i64 p.1.2.2.no, .int .i64 p.1.2.2.size, .slice p.2.1.1 p.2.1.2.1 p.2.1.2.2, .slice p.2.2.1 p.2.2.2.1 p.2.2.2.2]
theorem fnL (p : Fn × Fh) : (fnE p).length = 9 := rfl
theorem fnE_one (p : Fn × Fh) : ∀ u ∈ fnE p, u.oneCell' = true := by
  intro u hu
  simp only [fnE, List.mem_cons, List.not_mem_nil, or_false] at hu
  rcases hu with rfl | rfl | rfl | rfl | rfl | rfl | rfl | rfl | rfl <;> first | rfl | simp [Value.oneCell']
theorem fnE_at {w : World} {g ty : Nat} {p : Fn × Fh} (hw : Whole w g ty (fnE p).toArray) : ∀ j u, (fnE p)[j]? = some u → w.cell? ((⟨g, 0, none⟩ : Addr).add j) = some u := by
  intro j u hj
  rw [show (⟨g, 0, none⟩ : Addr).add j = ⟨g, j, none⟩ by unfold Addr.add; split <;> simp_all, hw.cell j]
  simpa using hj
structure Fnds (w : World) (A : Option Addr) (n : Nat) (l : List (Fn × Fh)) : Prop where
  row : Rw w A n fnE 9 l
  recs : ∀ p ∈ l, RcIn w p.2.1.1 p.2.1.2.1 p.2.1.2.2 p.2.2.1 p.2.2.2.1 p.2.2.2.2 p.1.2.2
theorem Fnds.grow {w w' : World} {A : Option Addr} {n : Nat} {l : List (Fn × Fh)} (h : Fnds w A n l) (hg : Grows w w') : Fnds w' A n l := ⟨h.row.grow hg, fun p hp => (h.recs p hp).grow hg⟩
/-- The same, in memory from block b on. -/
structure FnOwn (b : Nat) (w : World) (A : Option Addr) (n c : Nat) (l : List (Fn × Fh)) : Prop where
  len : l.length = n
  own : w.ownsRow b 63 9 (.slice A n c) n (l.flatMap fnE)
  recs : ∀ p ∈ l, RcOwn w b p.2.1.1 p.2.1.2.1 p.2.1.2.2 p.2.2.1 p.2.2.2.1 p.2.2.2.2 p.1.2.2
theorem FnOwn.fnds {b : Nat} {w : World} {A : Option Addr} {n c : Nat} {l : List (Fn × Fh)} (h : FnOwn b w A n c l) : Fnds w A n l := ⟨Rw.owned fnL h.len (owned_from h.own (Nat.zero_le _)), fun p hp => (h.recs p hp).inn⟩
theorem FnOwn.nil (b : Nat) (w : World) : FnOwn b w none 0 0 [] := ⟨rfl, World.ownsRow_nil _ _ _ _, fun p hp => by cases hp⟩
theorem FnOwn.low {b b' : Nat} {w : World} {A : Option Addr} {n c : Nat} {l : List (Fn × Fh)} (h : FnOwn b w A n c l) (hb : b' ≤ b) : FnOwn b' w A n c l := ⟨h.len, owned_from h.own hb, fun p hp => ⟨owned_from (h.recs p hp).locs hb, (h.recs p hp).len, owned_from (h.recs p hp).b hb⟩⟩
theorem FnOwn.grow {b : Nat} {w w' : World} {A : Option Addr} {n c : Nat} {l : List (Fn × Fh)} (h : FnOwn b w A n c l) (hg : Grows w w') : FnOwn b w' A n c l := ⟨h.len, owned_grow h.own hg, fun p hp => (h.recs p hp).grow hg⟩
/-- What there is of bodies, with where it lies; how many have no record. -/
def fnsR (l : List Rx) : List (Fn × Fh) := (l.filter fun x => (getR x.1.2.2).isSome).map fun x => ((x.1.1, x.1.2.1, rcOf x.1.2.2), x.2)
def badR (l : List Rx) : Nat := (l.filter fun x => !(getR x.1.2.2).isSome).length
theorem fnsR_snoc (l : List Rx) (x : Rx) : fnsR (l ++ [x]) = fnsR l ++ if (getR x.1.2.2).isSome = true then [((x.1.1, x.1.2.1, rcOf x.1.2.2), x.2)] else [] := by
  unfold fnsR
  rw [List.filter_append, List.map_append]
  by_cases h : (getR x.1.2.2).isSome = true <;> simp [h]
theorem badR_snoc (l : List Rx) (x : Rx) : badR (l ++ [x]) = badR l + if (getR x.1.2.2).isSome = true then 0 else 1 := by
  unfold badR
  rw [List.filter_append, List.length_append]
  by_cases h : (getR x.1.2.2).isSome = true
  · rw [if_pos h, List.filter_cons, if_neg (by rw [h]; decide)]
    rfl
  · rw [if_neg h, List.filter_cons, if_pos (by rw [Bool.not_eq_true] at h; rw [h]; decide)]
    rfl
/-- The same of the bodies alone. -/
def fnsP (ts : List It) : List Fn := (ts.filter fun t => (getR t.2.2).isSome).map fun t => (t.1, t.2.1, rcOf t.2.2)
def badP (ts : List It) : Nat := (ts.filter fun t => !(getR t.2.2).isSome).length
theorem fnsR_P (l : List Rx) : (fnsR l).map (·.1) = fnsP (l.map (·.1)) := by
  unfold fnsR fnsP
  rw [List.map_map, List.filter_map, List.map_map]
  rfl
theorem badR_P (l : List Rx) : badR l = badP (l.map (·.1)) := by
  unfold badR badP
  rw [List.filter_map, List.length_map]
  rfl
end Go.Proofs.Ytdkpbphgaenlnaa
