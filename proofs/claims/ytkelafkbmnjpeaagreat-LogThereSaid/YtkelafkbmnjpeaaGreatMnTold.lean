import Derived.Test.YtkelafkbmnjpeaaGreatMG25
import Derived.Test.YtkelafkbmnjpeaaGreatMG24
set_option linter.unusedSimpArgs false
set_option linter.unusedVariables false
set_option maxHeartbeats 8000000
set_option maxRecDepth 100000
namespace Go.Proofs.YtkelafkbmnjpeaaGreat
open Go.Lib (hid)
open Go.RowKit Go.Shelf
attribute [local go_sem] Oper.semAt_some

def mnOf (o : Option Mn) : Mn := o.getD Mn.none
def MnTo (w : World) (o : Option Mn) (e : Ending) (w' : World) : Prop := ∃ A' k c', e = .returned (.tuple #[.agg #[.slice A' k c', .int .i64 (mnOf o).next], .bool o.isSome]) ∧ w'.ownsRow w.heap.size 3 1 (.slice A' k c') k ((mnOf o).segs.map iV) ∧ Grows w w'
theorem MnTo.none {w w' : World} (h : Grows w w') : MnTo w Option.none (.returned (.tuple #[.agg #[.slice Option.none 0 0, .int .i64 0], .bool false])) w' := ⟨Option.none, 0, 0, rfl, World.ownsRow_nil _ _ _ _, h⟩
theorem Yb {fn : Func} {p q : Tmp} (h : fn.results = #[.cell p 96, .tmp q]) (tmps : Array Value) (w : World) (g : Nat) (t : TypeId) (u0 u1 : Value) (b : Value)
    (hp : tmps.getD p undef = .pointer (some ⟨g, 0, none⟩)) (hq : tmps.getD q undef = b) (hg : Whole w g t #[u0, u1]) :
    (results fn tmps).run Tryz.prog w = .ok (.tuple #[.agg #[u0, u1], b]) w := by
  have hp' : tmps[p]?.getD undef = .pointer (some ⟨g, 0, none⟩) := by simpa using hp
  have hq' : tmps[q]?.getD undef = b := by simpa using hq
  have hi : (Tryz.prog.info? 96).map (·.size) = some 2 := by kernel_rfl
  simp [results, h, hp', hq', asAddr, run_loadVar_row w g t 96 #[u0, u1] (0, 0) _ hg Tryz.underlying96 rfl hi]
theorem Zz {w w' : World} {base : Nat} {e : TypeId} {size : Nat} {v : Value} {n : Nat} {xs : List Value} (h : w.ownsRow base e size v n xs) (hk : ∀ k, v.ownBlock = some k → w'.heap[k]? = w.heap[k]?) : w'.ownsRow base e size v n xs := by
  obtain ⟨h1, h2⟩ := h
  refine ⟨h1, ?_⟩
  rcases h2 with h2 | ⟨g, cap, cur, rfl, hb, hh, r⟩
  · exact .inl h2
  · exact .inr ⟨g, cap, cur, rfl, hb, (hk g rfl).trans hh, r⟩
theorem Sl.cellwise {B : Nat} {w w' : World} {A : Option Addr} {n c : Nat} {bs : List UInt8} (h : Sl w A n c bs) (hc : Zj B w w') : Sl w' A n c bs :=
  ⟨⟨by rw [List.length_map]; exact h.bytes.len, fun k v hv => by
    obtain ⟨ad, h1, h2, h3⟩ := Row.spot h.bytes k v hv
    exact ⟨ad, h1, Nat.lt_of_lt_of_le h2 (Zc.size hc), hc.cell h3⟩⟩, h.cap, h.bare⟩
structure MHas (n₀ V b : Nat) (nx : Int) (w : World) (pre : List Cx) (W : World) : Prop where
  man : ∃ A c, Whole W b 96 #[.slice A pre.length c, .int .i64 nx] ∧ W.ownsRow V 3 1 (.slice A pre.length c) pre.length ((pre.map fun x => valB x.1).map iV)
  low : Below n₀ w W
  res : Whole W n₀ 96 #[.slice none 0 0, .int .i64 0]
theorem MHas.stay {n₀ V b B : Nat} {nx : Int} {w X Y : World} {pre : List Cx} (hB : n₀ ≤ B) (hw : n₀ ≤ w.heap.size) (h : MHas n₀ V b nx w pre X) (hc : Zj B X Y) : MHas n₀ V b nx w pre Y := by
  obtain ⟨⟨A, c, h1, h2⟩, h3, h4⟩ := h
  exact ⟨⟨A, c, hc.held h1, hc.owned h2⟩, h3.trans (hc.under hB (Nat.le_trans hw h3.size)), hc.held h4⟩
theorem Sl.spare {own : Nat → Prop} {w w' : World} {A : Option Addr} {n c : Nat} {bs : List UInt8} (h : Sl w A n c bs) (hs : Zc own w w') (ho : ∀ ad, A = some ad → ¬ own ad.block) : Sl w' A n c bs :=
  ⟨⟨by rw [List.length_map]; exact h.bytes.len, fun k v hv => by
    obtain ⟨ad, h1, h2, h3⟩ := Row.spot h.bytes k v hv
    refine ⟨ad, h1, Nat.lt_of_lt_of_le h2 hs.size, ?_⟩
    rw [World.cell?_of_block (hs.same (ad.add k).block (by rw [Zk]; exact h2) (by rw [Zk]; exact ho ad h1))]
    exact h3⟩, h.cap, h.bare⟩
theorem Zmn {n₀ b k fc cap1 : Nat} {nx v : Int} {V W0 Wb w w5 : World} {pre : List Cx} {x : Cx} {FA A1 : Option Addr} (hb : n₀ < b) (hV : V.heap.size = b + 1 + 1 + 1) (hVW : V.heap.size ≤ Wb.heap.size) (hmi : ∀ g, (Value.slice FA k fc).ownBlock = some g → V.heap.size ≤ g ∧ Mine n₀ (b + 1) V.heap.size W0 g)
    (hman : Whole Wb b 96 #[.slice FA k fc, .int .i64 nx]) (hlow : Below n₀ w Wb) (hw : n₀ ≤ w.heap.size) (hres : Whole Wb n₀ 96 #[.slice none 0 0, .int .i64 0]) (hk : pre.length = k) (hv : valB x.1 = v)
    (hsp : Zc (fun g => (Value.slice FA k fc).ownBlock = some g) Wb w5) (hown : w5.ownsRow V.heap.size 3 1 (.slice A1 (k + 1) cap1) (k + 1) ((pre.map fun x => valB x.1).map iV ++ [.int .i64 v])) :
    Zc (Mine n₀ (b + 1) V.heap.size W0) Wb (w5.setCell ⟨b, 0, none⟩ (.slice A1 (k + 1) cap1)) ∧ MHas n₀ V.heap.size b nx w (pre ++ [x]) (w5.setCell ⟨b, 0, none⟩ (.slice A1 (k + 1) cap1)) := by
  have hs1 : Zc (fun g => (Value.slice FA k fc).ownBlock = some g ∨ g = b) Wb (w5.setCell ⟨b, 0, none⟩ (.slice A1 (k + 1) cap1)) := (hsp.wider fun g _ h => .inl h).setCell (p := ⟨b, 0, none⟩) (.inr rfl) _
  have hm5 : Whole w5 b 96 #[.slice FA k fc, .int .i64 nx] := hman.same (hsp.same b hman.lt fun e => by have := (hmi b e).1; omega)
  have hr5 : Whole w5 n₀ 96 #[.slice none 0 0, .int .i64 0] := hres.same (hsp.same n₀ hres.lt fun e => by have := (hmi n₀ e).1; omega)
  refine ⟨hs1.wider fun g _ hg => ?_, ⟨A1, cap1, ?_, ?_⟩, hlow.trans (hs1.below (Nat.le_trans hw hlow.size) fun g hg e => ?_), hr5.elsewhere (p := ⟨b, 0, none⟩) (by dsimp only; omega) _⟩
  · rcases hg with hg | rfl
    · exact (hmi g hg).2
    · exact .inl (by omega)
  · have := hm5.put 0 (.slice A1 (k + 1) cap1)
    rw [List.length_append, hk]
    exact this
  · rw [List.length_append, hk, List.map_append, List.map_append, List.map_cons, List.map_nil, hv]
    exact ownsRow_setCell_below hown (by dsimp only; omega) _
  · rcases e with e | e
    · have := (hmi g e).1; omega
    · omega

theorem Zqw (w : World) (A : Option Addr) (n c : Nat) (bs : List UInt8) (h : Sl w A n c bs) (hn : n ≤ 10000) :
    Calls Tryz.prog 157 #[.slice A n c] w (MnTo w (toldM bs)) := by
  have hlen := h.len
  have hcap := h.cap
  have HS0 := hid h
  obtain ⟨o, ho⟩ : ∃ o, toldM bs = o := ⟨_, rfl⟩
  rw [ho]
  have HO := hid ho
  clear h ho
  refine (callsIn_wide (n := 3)).1 ?_
  have hm := Whole.made w 96 #[.slice none 0 0, .int .i64 0]
  have hg := Zb w (.cells #[.slice none 0 0, .int .i64 0] 96)
  have HS := hid (HS0.out.grow hg)
  obtain ⟨w1, hw1⟩ : ∃ x, w.alloc (.cells #[.slice none 0 0, .int .i64 0] 96) = x := ⟨_, rfl⟩
  rw [hw1] at hm hg HS
  have HM := hid hm
  have HG := hid hg
  have HW1 := hid hw1
  have k0 := hm.free 0
  have k1 := hm.free 1
  have k2 := hm.cell 0
  have k3 := hm.cell 1
  simp only [Gt] at k0 k1 k2 k3
  have s1 : w1.heap.size = w.heap.size + 1 := by rw [← hw1, World.size_alloc]
  have HS1 := hid s1
  clear hm hg s1
  by_cases h7 : n < 7
  · have h7' : (n : Int) < 7 := by omega
    obtain rfl : o = none := by
      rw [← HO.out]
      unfold toldM
      rw [if_pos (.inl (by rw [hlen]; exact h7))]
    refine callsIn_of_wp_marks Tryz.func157 rfl trivial ?_ rfl
    simp only [Tryz.ntmps157, List.size_toArray, List.length_cons, List.length_nil, Nat.reduceAdd, Nat.reduceSub, Array.replicate_succ, Array.replicate_zero, List.push_toArray, List.append_toArray, List.nil_append, List.cons_append]
    gi_wp2_with (fail)
    refine ⟨_, Yb rfl _ _ w.heap.size _ _ _ (.bool false) rfl rfl (show Whole _ _ _ #[.slice none 0 0, .int .i64 0] from (HM.out.put 0 _).put 1 _), MnTo.none ((Below.setCell (p := ⟨w.heap.size, 0, none⟩) HG.out (Nat.le_refl _) _).setCell (p := ⟨w.heap.size, 1, none⟩) (Nat.le_refl _) _)⟩
  have h7' : ¬ ((n : Int) < 7) := by omega
  obtain ⟨ad, rfl, _, hc0⟩ := HS.out.bytes.spot (k := 0) (by omega)
  rw [show ad.add 0 = ad by unfold Addr.add; simp] at hc0
  obtain ⟨b0, hb0⟩ : ∃ b, bs.getD 0 0 = b := ⟨_, rfl⟩
  rw [hb0] at hc0
  have h0n : (0 : Int) < (n : Int) := by omega
  by_cases h8 : b0 = 8
  rotate_left 1
  · have h8b : (((b0.toNat : Nat) : Int) != 8) = true := by
      rw [bne_iff_ne]
      intro e
      exact h8 (UInt8.toNat_inj.1 (by have : b0.toNat = 8 := by omega
                                      exact this))
    obtain rfl : o = none := by
      rw [← HO.out]
      unfold toldM
      rw [if_pos (.inr (by rw [hb0]; exact h8))]
    clear h8
    refine callsIn_of_wp_marks Tryz.func157 rfl trivial ?_ rfl
    simp only [Tryz.ntmps157, List.size_toArray, List.length_cons, List.length_nil, Nat.reduceAdd, Nat.reduceSub, Array.replicate_succ, Array.replicate_zero, List.push_toArray, List.append_toArray, List.nil_append, List.cons_append]
    gi_wp2_with (fail)
    refine ⟨_, Yb rfl _ _ w.heap.size _ _ _ (.bool false) rfl rfl (show Whole _ _ _ #[.slice none 0 0, .int .i64 0] from (HM.out.put 0 _).put 1 _), MnTo.none ((Below.setCell (p := ⟨w.heap.size, 0, none⟩) HG.out (Nat.le_refl _) _).setCell (p := ⟨w.heap.size, 1, none⟩) (Nat.le_refl _) _)⟩
  subst h8
  have HB8 := hid hb0
  have h8b : ((((8 : UInt8).toNat : Nat) : Int) != 8) = false := by decide
  obtain ⟨x8, hx8⟩ : ∃ x, (((8 : UInt8).toNat : Nat) : Int) = x := ⟨_, rfl⟩
  rw [hx8] at h8b hc0
  clear hb0 hx8
  obtain ⟨cn, hcn⟩ : ∃ z, valB ((bs.drop 5).take 2) = z := ⟨_, rfl⟩
  have hp5 := (HS.out.part (k := 5) (m := 7) (by omega) (by omega) (by omega))
  rw [List.drop_take, show 7 - 5 = 2 from rfl] at hp5
  have hcb : 0 ≤ cn ∧ cn < 65536 := by
    have := Zam ((bs.drop 5).take 2)
    rw [hcn, hp5.len] at this
    exact this
  have hn5 := J8 _ 2 (c - 5) _ w1 hp5 (by omega)
  rw [hcn] at hn5
  have HN5 := hid hn5
  have hc7 : (7 : Int) ≤ (c : Int) := by omega
  have hc5 : ¬ c = 5 := by omega
  have hn7 : (7 : Int) ≤ (n : Int) := by omega
  have hnc : (n : Int) ≤ (c : Int) := by omega
  have hw4 : IntKind.i64.wrap (cn * 4) = cn * 4 := IntWalk.i64_in _ (by omega)
  have hw4' : wrap64 (cn * 4) = cn * 4 := by rw [← IntWalk.i64_left]; exact hw4
  obtain ⟨r7, hr7⟩ : ∃ r7, n - 7 = r7 := ⟨_, rfl⟩
  have HCN := hid hcn
  clear hp5 hn5 hcn
  by_cases hcc : c = 7
  · subst hcc
    obtain rfl : n = 7 := by omega
    obtain rfl : r7 = 0 := by omega
    clear hr7 hnc hn7 hc7 hcap
    have HRS := hid (show Sl w (some ad) 0 0 (bs.drop 7) from by
      have e : bs.drop 7 = [] := List.drop_eq_nil_of_le (by omega)
      rw [e]
      exact ⟨Bytes.nil _ _ _, Nat.zero_le _, fun h => by cases h⟩)
    by_cases hcq : (0 : Int) = cn * 4
    rotate_left 1
    · have hcqb : ((0 : Int) != cn * 4) = true := by rw [bne_iff_ne]; exact hcq
      obtain rfl : o = none := by
        rw [← HO.out]
        unfold toldM
        rw [if_neg (by rw [HB8.out]; simp only [not_or, Decidable.not_not, ne_eq]; exact ⟨by omega, trivial⟩), if_pos]
        rw [HCN.out, hlen]
        simpa using hcq
      clear hcq
      refine callsIn_of_wp_marks Tryz.func157 rfl trivial ?_ rfl
      simp only [Tryz.ntmps157, List.size_toArray, List.length_cons, List.length_nil, Nat.reduceAdd, Nat.reduceSub, Array.replicate_succ, Array.replicate_zero, List.push_toArray, List.append_toArray, List.nil_append, List.cons_append]
      gi_wp2_with (fail)
      refine ⟨trivial, (callsIn_wide.2 HN5.out).mono ?_⟩
      rintro e w2 ⟨rfl, rfl⟩
      gi_wp2_with (fail)
      refine ⟨_, Yb rfl _ _ w.heap.size _ _ _ (.bool false) rfl rfl (show Whole _ _ _ #[.slice none 0 0, .int .i64 0] from (HM.out.put 0 _).put 1 _), MnTo.none ((Below.setCell (p := ⟨w.heap.size, 0, none⟩) HG.out (Nat.le_refl _) _).setCell (p := ⟨w.heap.size, 1, none⟩) (Nat.le_refl _) _)⟩
    have hcqb : ((0 : Int) != cn * 4) = false := by rw [bne_eq_false_iff_eq]; exact hcq
    obtain ⟨K, hK⟩ : ∃ K : Nat, cn = (K : Int) := ⟨cn.toNat, by omega⟩
    have hK4 : 0 = 4 * K := by omega
    obtain ⟨nx, hnx⟩ : ∃ z, valB ((bs.drop 1).take 4) = z := ⟨_, rfl⟩
    obtain rfl : o = some ⟨foursL (bs.drop 7), nx⟩ := by
      rw [← HO.out]
      unfold toldM
      rw [if_neg (by rw [HB8.out]; simp only [not_or, Decidable.not_not, ne_eq]; exact ⟨by omega, trivial⟩), if_neg, hnx]
      rw [HCN.out, hlen]
      simp only [ne_eq, Decidable.not_not]
      simpa using hcq
    have hp1 := (HS.out.part (k := 1) (m := 5) (by omega) (by omega) (by omega))
    rw [List.drop_take, show 5 - 1 = 4 from rfl] at hp1
    have hn1 := J8 _ 4 6 _ w1 hp1 (by omega)
    rw [hnx] at hn1
    have HN1 := hid hn1
    have HKK := hid (And.intro hK4 (show K ≤ 10000 by omega))
    have hlr : (bs.drop 7).length = 0 := by rw [List.length_drop]; omega
    have HLR := hid hlr
    clear hcq hK hK4 hnx hp1 hn1 hlr
    refine callsIn_of_wp_marks Tryz.func157 rfl trivial ?_ rfl
    simp only [Tryz.ntmps157, List.size_toArray, List.length_cons, List.length_nil, Nat.reduceAdd, Nat.reduceSub, Array.replicate_succ, Array.replicate_zero, List.push_toArray, List.append_toArray, List.nil_append, List.cons_append]
    gi_wp2_with (fail)
    refine ⟨trivial, (callsIn_wide.2 HN5.out).mono ?_⟩
    rintro e w2 ⟨rfl, rfl⟩
    gi_wp2_with (fail)
    refine ⟨trivial, (callsIn_wide.2 HN1.out).mono ?_⟩
    rintro e w2 ⟨rfl, rfl⟩
    have hm2 := Whole.made w1 96 #[.slice none 0 0, .int .i64 nx]
    have hg2 := Zb w1 (.cells #[.slice none 0 0, .int .i64 nx] 96)
    gi_wp2_with (fail)
    refine ⟨trivial, (callsIn_wide.2 (Zmo _ _ _ _)).mono ?_⟩
    rintro e V ⟨rfl, hV⟩
    obtain ⟨w2, hw2⟩ : ∃ x, w1.alloc (.cells #[.slice none 0 0, .int .i64 nx] 96) = x := ⟨_, rfl⟩
    rw [hw2] at hV hm2 hg2
    rw [hw2]
    have s2 : w2.heap.size = w1.heap.size + 1 := by rw [← hw2, World.size_alloc]
    obtain ⟨w3, hw3⟩ : ∃ x, w2.alloc (.cells #[.slice (some ad) 0 0] 37) = x := ⟨_, rfl⟩
    have hV' : w3.alloc (.cells #[.int .i64 4] 3) = V := by rw [← hw3]; exact hV
    have s3 : w3.heap.size = w1.heap.size + 1 + 1 := by rw [← hw3, World.size_alloc, s2]
    have sV : V.heap.size = w1.heap.size + 1 + 1 + 1 := by rw [← hV', World.size_alloc, s3]
    have g3 : Grows w2 w3 := hw3 ▸ Zb _ _
    have gV : Grows w3 V := hV' ▸ Zb _ _
    have b1 : Boxed V (w1.heap.size + 1) 37 (.slice (some ad) 0 0) := by
      have h1 : Boxed w3 w2.heap.size 37 (.slice (some ad) 0 0) := by rw [← hw3]; exact Boxed.new _ _ _
      rw [s2] at h1
      exact gV.whole h1
    have b2 : Boxed V (w1.heap.size + 1 + 1) 3 (.int .i64 4) := by rw [← s3, ← hV']; exact Boxed.new _ _ _
    have g2V := Grows.trans hg2 (Grows.trans g3 gV)
    have hgives := Zfq 2 (w1.heap.size + 1) (w1.heap.size + 1 + 1) (some ad) 0 0 K (bs.drop 7) w V HRS.out (Lowly.grows (Grows.trans HG.out g2V)) b1 b2 HKK.out.1 (by have := HKK.out.2; omega)
    have h0 : MHas w.heap.size V.heap.size w1.heap.size nx w [] V := ⟨⟨none, 0, (Grows.trans g3 gV).whole hm2, World.ownsRow_nil _ _ _ _⟩, Below.trans HG.out (Below.mono g2V (by rw [HS1.out]; omega)), g2V.whole HM.out⟩
    have HGI := hid hgives
    have H0 := hid h0
    have HSZ := hid (And.intro sV (show w.heap.size < w1.heap.size by rw [HS1.out]; omega))
    rw [s2]
    clear hV hV' hw2 hw3 hm2 hg2 s2 s3 sV g3 gV b1 b2 g2V hgives h0
    gi_wp2_with (fail)
    refine Zbm (gf := 286) (lb := #[.pointer (some ⟨w1.heap.size + 1, 0, none⟩), .pointer (some ⟨w1.heap.size + 1 + 1, 0, none⟩)]) rfl (enters_of Tryz.func286 (by kernel_rfl) rfl) HGI.out (fun _ => rfl)
      w.heap.size (w1.heap.size + 1) (by have := HSZ.out; omega) (by have := HSZ.out; omega) (fun k hk => by have := HSZ.out; omega) (MHas w.heap.size V.heap.size w1.heap.size nx w) (fun _ _ => False)
      (fun _ _ _ h hc => h.stay (by have := HSZ.out; omega) (Nat.le_refl _) hc) (fun _ _ _ h _ => h) H0.out ?round ?done (fun _ _ _ _ _ h _ => h.elim)
    case round =>
      rintro l pre ⟨xb, xa⟩ W0 W hsz hi hg hgd
      simp only [Nat.reduceSub]
      dsimp only [Zmp]
      gi_wp2_with (fail)
      refine ⟨Grows.refl _, fun Wb hcw => ?_⟩
      obtain ⟨hxb, hxs, hxl, hxa⟩ := hgd
      dsimp only at hxb hxs hxl hxa
      have hcW : Zj V.heap.size W0 Wb := (Zj.grows hg).trans hcw
      obtain ⟨⟨FA, fc, hman0, hown0⟩, hlow0, hres0⟩ := hi
      obtain ⟨k, hk⟩ : ∃ k, pre.length = k := ⟨_, rfl⟩
      rw [hk] at hman0 hown0
      have HMI := hid (Zc8 (n₀ := w.heap.size) (m := w1.heap.size + 1) hown0)
      have hman := hcW.held hman0
      have hown := hcW.owned hown0
      have hres := hcW.held hres0
      have hlow := hlow0.trans (hcW.under (show w.heap.size ≤ V.heap.size by have := HSZ.out; omega) hlow0.size)
      obtain ⟨v, hv⟩ : ∃ v, valB xb = v := ⟨_, rfl⟩
      have hvs : V.heap.size ≤ Wb.heap.size := Nat.le_trans hsz (Zc.size hcW)
      have HLOW := hid (show ∀ g, (Value.slice FA k fc).ownBlock = some g → V.heap.size ≤ g ∧ g < Wb.heap.size from fun g hg => hown.lt g hg)
      have HX := hid (show ∀ w', Zc (fun g => (Value.slice FA k fc).ownBlock = some g) Wb w' → Sl w' xa 4 4 xb from fun w' hC => (hxs.cellwise hcw).spare hC fun ad e h => by
        have h1 := (HLOW.out _ h).1
        have h2 := hxa ad e
        have := HSZ.out
        omega)
      have HC := hid (show ∀ w', Zc (fun g => (Value.slice FA k fc).ownBlock = some g) Wb w' → w'.cell? { block := w1.heap.size, off := 0 } = some (.slice FA k fc) ∧ w'.frozen? { block := w1.heap.size, off := 0 } = false from fun w' hC => by
        have h1 := (show Whole Wb _ _ _ from hman).same (hC.same _ (Whole.lt hman) fun e => by have := (HLOW.out _ e).1; have := HSZ.out; omega)
        exact ⟨h1.cell 0, h1.free 0⟩)
      obtain ⟨ys, hys⟩ : ∃ ys, (pre.map fun x => valB x.1).map iV = ys := ⟨_, rfl⟩
      rw [hys] at hown
      obtain ⟨i0, hi0, hz0, hz1, hz2⟩ := info_parts infoI
      have HII := hid (And.intro hi0 (And.intro hz0 (And.intro hz1 hz2)))
      have HV := hid hv
      have HVS := hid hvs
      have HOWN := hid hown
      have HK := hid (show k ≤ 20000 by have := HLR.out; have := HKK.out; omega)
      have HP := hid (And.intro (show Whole Wb _ _ _ from hman) (And.intro (show Whole Wb _ _ _ from hres) (And.intro hlow (And.intro hk hys))))
      clear hxb hxs hxl hxa hcW hman0 hown0 hlow0 hres0 hman hown hres hlow hv hvs hk hys hi0 hz0 hz1 hz2 hcw hg hsz
      gi_wp2_with (fail)
      refine Zb1 (G := Grows) (E := Zc (fun g => (Value.slice FA k fc).ownBlock = some g)) 7 [Zu _ (.pointer (some ⟨w1.heap.size, 0, none⟩)), Zu _ (.slice FA k fc), Zu _ (.slice xa 4 4), Zu _ (.int .i64 v), Zo8 _ (3) (#[.int .i64 v]) 1, Zl5 _ V.heap.size 3 (.slice FA k fc) Wb.heap.size (k + 1) (ys ++ [.int .i64 v]), Zu _ (.pointer (some ⟨w1.heap.size, 0, none⟩))] [(false, false), (false, false), (false, false), (false, false), (false, false), (true, true), (false, false)] (fun w => w.ownsRow V.heap.size 3 1 (.slice FA k fc) k ys) rfl mixed (by kernel_rfl) (by kernel_rfl) (fun _ _ => Zc.grows) (fun _ _ _ => Zc.trans) (Jz _ _) (Zz HOWN.out fun _ _ => rfl) (fun _ _ h g => Zd h g) ?_
      simp only [List.take_succ_cons, List.take_zero, List.drop_succ_cons, List.drop_zero]
      refine j_val _ (by rfl) ?_ ?_
      · intro w' hC; clear hC; go_simp
      simp only [Pu]
      refine j_val _ (by rfl) ?_ ?_
      · intro w' hC; obtain ⟨z1, z2⟩ := HC.out w' hC; clear hC; go_simp
      simp only [Pu]
      refine j_val _ (by rfl) ?_ ?_
      · intro w' hC; clear hC; go_simp
      simp only [Pu]
      refine Ztv 236 #[.slice xa 4 4] (.int .i64 v) (by rfl) (by intro w' hC; clear hC; go_simp) ?_ ?_
      · intro w' hC hks; rw [← HV.out]; exact (J8 xa 4 4 xb w' (HX.out w' hC) (by omega)).mono fun e w'' ⟨he, hw⟩ => ⟨he, hw ▸ Grows.refl _⟩
      simp only [Pu]
      refine Ztw (3) (#[.int .i64 v]) 1 (fun g h => (HLOW.out g h).2) (by rfl) ?_ ?_
      · intro w' hC; clear hC; go_simp
      intro lg
      simp only [Pu]
      refine Zhu (A0 := FA) (n := k) (c0 := fc) (xs := ys) (A := some ⟨lg, 0, none⟩) (m := 1) (c := 1) (news := [v].map iV) ?_ (.tmp 37) (.tmp 40) 40 ?_ (B := Wb.heap.size) Tryz.underlying40 HII.out.1 HII.out.2.1 HII.out.2.2.1 HII.out.2.2.2 ?_ ?_ (.slice FA k fc) ?_ ?_ ?_ ?_ ?_ ?_ ?_ (Ztx [v]) (k + 1) rfl (ys ++ [.int .i64 v]) rfl ?_ ?_ HVS.out ?_ ?_
      · rfl
      · rfl
      · rfl
      · rfl
      · exact fun w' h => ⟨h, .inl rfl⟩
      · exact Nat.le_refl _
      · exact fun _ h => h
      · exact fun _ _ _ h _ => h
      · rfl
      · intro w' hC hks
        have hh := Known.get hks 0 rfl rfl
        exact ⟨_, (Ints.lit hh.1 [v] rfl (n := 1) rfl).row⟩
      · exact fun h => by cases h
      · unfold maxLen; have := HK.out; omega
      · have := HK.out; omega
      · exact fun _ _ _ _ h _ => h
      intro A1 c1
      simp only [Pu]
      refine j_val _ (by rfl) ?_ ?_
      · intro w' hC; clear hC; go_simp
      simp only [Pu]
      refine Zew ?_
      intro w5 hC hks hcls
      have HC5 := hid hC
      have HL5 := hid hcls
      obtain ⟨z1, z2⟩ := HC.out w5 hC
      clear hC hks hcls

      gi_wp2_with (fail)
      exact Zmn HSZ.out.2 HSZ.out.1 HVS.out HMI.out HP.out.1 HP.out.2.2.1 (Nat.le_refl _) HP.out.2.1 HP.out.2.2.2.1 HV.out HC5.out (by rw [HP.out.2.2.2.2]; exact HL5.out.1)
    case done =>
      intro D xs W hD hS hi hK
      obtain ⟨⟨FA, fc, hman, hown⟩, hlow, hres⟩ := hi
      obtain ⟨k, hk⟩ : ∃ k, xs.length = k := ⟨_, rfl⟩
      rw [hk] at hman hown
      have q0 := hman.cell 0
      have q1 := hman.cell 1
      have q2 := hres.free 0
      have q3 := hres.free 1
      have q4 := hres.cell 0
      have q5 := hres.cell 1
      simp only [Gt] at q0 q1 q4 q5
      have HH := hid (And.intro hown (And.intro hlow (And.intro hres (And.intro hD (And.intro hS (And.intro hK hk))))))
      clear hman hown hlow hres hD hS hK hk
      gi_wp2_with (fail)
      obtain ⟨hown, hlow, hres, hD, hS, hK, hk⟩ := HH.out
      have hsp : Zc (fun g => g = w.heap.size) W ((W.setCell ⟨w.heap.size, 0, none⟩ (.slice FA k fc)).setCell ⟨w.heap.size, 1, none⟩ (.int .i64 nx)) := ((Zc.refl (fun g => g = w.heap.size) W).setCell (p := ⟨w.heap.size, 0, none⟩) rfl _).setCell (p := ⟨w.heap.size, 1, none⟩) rfl _
      have hK6 := (hsp.same D (Array.getElem?_eq_some_iff.1 hK).1 (by have := HSZ.out; omega)).trans hK
      have hres6 : Whole ((W.setCell ⟨w.heap.size, 0, none⟩ (.slice FA k fc)).setCell ⟨w.heap.size, 1, none⟩ (.int .i64 nx)) w.heap.size 96 #[.slice FA k fc, .int .i64 nx] := (hres.put 0 _).put 1 _
      have hown6 := Zz hown fun g hg => hsp.same g (hown.lt g hg).2 (by have := (hown.lt g hg).1; have := HSZ.out; omega)
      have hlow6 := hlow.trans (hsp.below hlow.size fun g hg e => by omega)
      refine ⟨by simp, .inl ⟨_, _, rfl, run_takeDeferred hK6, ?_⟩⟩
      have hcw := Zj.putObj hK6 rfl hD (.deferred none)
      refine ⟨.tuple #[.agg #[.slice FA k fc, .int .i64 nx], .bool true], Yb rfl _ _ w.heap.size _ _ _ (.bool true) rfl rfl (hcw.held hres6), FA, k, fc, rfl, ?_, hlow6.trans (hcw.under (show w.heap.size ≤ V.heap.size by have := HSZ.out; omega) hlow6.size)⟩
      rw [show (mnOf (some ⟨foursL (bs.drop 7), nx⟩)).segs = foursL (bs.drop 7) from rfl, ← hS]
      exact Zh (hcw.owned hown6) (show w.heap.size ≤ V.heap.size by have := HSZ.out; omega)
  have HRS := hid (show Sl w (some (ad.add 7)) r7 (c - 7) (bs.drop 7) from by
    have h0 := HS0.out.part (k := 7) (m := n) (by omega) (by omega) hcc
    rw [List.take_of_length_le (by omega), hr7] at h0
    exact h0)
  by_cases hcq : (r7 : Int) = cn * 4
  rotate_left 1
  · have hcqb : ((r7 : Int) != cn * 4) = true := by rw [bne_iff_ne]; exact hcq
    obtain rfl : o = none := by
      rw [← HO.out]
      unfold toldM
      rw [if_neg (by rw [HB8.out]; simp only [not_or, Decidable.not_not, ne_eq]; exact ⟨by omega, trivial⟩), if_pos]
      rw [HCN.out, hlen, hr7]
      exact hcq
    clear hcq
    refine callsIn_of_wp_marks Tryz.func157 rfl trivial ?_ rfl
    simp only [Tryz.ntmps157, List.size_toArray, List.length_cons, List.length_nil, Nat.reduceAdd, Nat.reduceSub, Array.replicate_succ, Array.replicate_zero, List.push_toArray, List.append_toArray, List.nil_append, List.cons_append]
    gi_wp2_with (fail)
    refine ⟨trivial, (callsIn_wide.2 HN5.out).mono ?_⟩
    rintro e w2 ⟨rfl, rfl⟩
    gi_wp2_with (fail)
    refine ⟨_, Yb rfl _ _ w.heap.size _ _ _ (.bool false) rfl rfl (show Whole _ _ _ #[.slice none 0 0, .int .i64 0] from (HM.out.put 0 _).put 1 _), MnTo.none ((Below.setCell (p := ⟨w.heap.size, 0, none⟩) HG.out (Nat.le_refl _) _).setCell (p := ⟨w.heap.size, 1, none⟩) (Nat.le_refl _) _)⟩
  have hcqb : ((r7 : Int) != cn * 4) = false := by rw [bne_eq_false_iff_eq]; exact hcq
  obtain ⟨K, hK⟩ : ∃ K : Nat, cn = (K : Int) := ⟨cn.toNat, by omega⟩
  have hK4 : r7 = 4 * K := by omega
  obtain ⟨nx, hnx⟩ : ∃ z, valB ((bs.drop 1).take 4) = z := ⟨_, rfl⟩
  obtain rfl : o = some ⟨foursL (bs.drop 7), nx⟩ := by
    rw [← HO.out]
    unfold toldM
    rw [if_neg (by rw [HB8.out]; simp only [not_or, Decidable.not_not, ne_eq]; exact ⟨by omega, trivial⟩), if_neg, hnx]
    rw [HCN.out, hlen, hr7]
    simp only [ne_eq, Decidable.not_not]
    exact hcq
  have hp1 := (HS.out.part (k := 1) (m := 5) (by omega) (by omega) (by omega))
  rw [List.drop_take, show 5 - 1 = 4 from rfl] at hp1
  have hn1 := J8 _ 4 (c - 1) _ w1 hp1 (by omega)
  rw [hnx] at hn1
  have HN1 := hid hn1
  have hc1 : ¬ c = 1 := by omega
  have HKK := hid (And.intro hK4 (show K ≤ 10000 by omega))
  have h5c : (5 : Int) ≤ (c : Int) := by omega
  have hlr : (bs.drop 7).length = r7 := by rw [List.length_drop]; omega
  have HLR := hid hlr
  clear hcq hK hK4 hnx hp1 hn1 hlr
  refine callsIn_of_wp_marks Tryz.func157 rfl trivial ?_ rfl
  simp only [Tryz.ntmps157, List.size_toArray, List.length_cons, List.length_nil, Nat.reduceAdd, Nat.reduceSub, Array.replicate_succ, Array.replicate_zero, List.push_toArray, List.append_toArray, List.nil_append, List.cons_append]
  gi_wp2_with (fail)
  refine ⟨trivial, (callsIn_wide.2 HN5.out).mono ?_⟩
  rintro e w2 ⟨rfl, rfl⟩
  gi_wp2_with (fail)
  refine ⟨trivial, (callsIn_wide.2 HN1.out).mono ?_⟩
  rintro e w2 ⟨rfl, rfl⟩
  have hm2 := Whole.made w1 96 #[.slice none 0 0, .int .i64 nx]
  have hg2 := Zb w1 (.cells #[.slice none 0 0, .int .i64 nx] 96)
  gi_wp2_with (fail)
  refine ⟨trivial, (callsIn_wide.2 (Zmo _ _ _ _)).mono ?_⟩
  rintro e V ⟨rfl, hV⟩
  obtain ⟨w2, hw2⟩ : ∃ x, w1.alloc (.cells #[.slice none 0 0, .int .i64 nx] 96) = x := ⟨_, rfl⟩
  rw [hw2] at hV hm2 hg2
  rw [hw2]
  have s2 : w2.heap.size = w1.heap.size + 1 := by rw [← hw2, World.size_alloc]
  obtain ⟨w3, hw3⟩ : ∃ x, w2.alloc (.cells #[.slice (some (ad.add 7)) r7 (c - 7)] 37) = x := ⟨_, rfl⟩
  have hV' : w3.alloc (.cells #[.int .i64 4] 3) = V := by rw [← hw3]; exact hV
  have s3 : w3.heap.size = w1.heap.size + 1 + 1 := by rw [← hw3, World.size_alloc, s2]
  have sV : V.heap.size = w1.heap.size + 1 + 1 + 1 := by rw [← hV', World.size_alloc, s3]
  have g3 : Grows w2 w3 := hw3 ▸ Zb _ _
  have gV : Grows w3 V := hV' ▸ Zb _ _
  have b1 : Boxed V (w1.heap.size + 1) 37 (.slice (some (ad.add 7)) r7 (c - 7)) := by
    have h1 : Boxed w3 w2.heap.size 37 (.slice (some (ad.add 7)) r7 (c - 7)) := by rw [← hw3]; exact Boxed.new _ _ _
    rw [s2] at h1
    exact gV.whole h1
  have b2 : Boxed V (w1.heap.size + 1 + 1) 3 (.int .i64 4) := by rw [← s3, ← hV']; exact Boxed.new _ _ _
  have g2V := Grows.trans hg2 (Grows.trans g3 gV)
  have hgives := Zfq 2 (w1.heap.size + 1) (w1.heap.size + 1 + 1) (some (ad.add 7)) r7 (c - 7) K (bs.drop 7) w V HRS.out (Lowly.grows (Grows.trans HG.out g2V)) b1 b2 HKK.out.1 (by have := HKK.out.2; omega)
  have h0 : MHas w.heap.size V.heap.size w1.heap.size nx w [] V := ⟨⟨none, 0, (Grows.trans g3 gV).whole hm2, World.ownsRow_nil _ _ _ _⟩, Below.trans HG.out (Below.mono g2V (by rw [HS1.out]; omega)), g2V.whole HM.out⟩
  have HGI := hid hgives
  have H0 := hid h0
  have HSZ := hid (And.intro sV (show w.heap.size < w1.heap.size by rw [HS1.out]; omega))
  rw [s2]
  clear hV hV' hw2 hw3 hm2 hg2 s2 s3 sV g3 gV b1 b2 g2V hgives h0
  gi_wp2_with (fail)
  refine Zbm (gf := 286) (lb := #[.pointer (some ⟨w1.heap.size + 1, 0, none⟩), .pointer (some ⟨w1.heap.size + 1 + 1, 0, none⟩)]) rfl (enters_of Tryz.func286 (by kernel_rfl) rfl) HGI.out (fun _ => rfl)
    w.heap.size (w1.heap.size + 1) (by have := HSZ.out; omega) (by have := HSZ.out; omega) (fun k hk => by have := HSZ.out; omega) (MHas w.heap.size V.heap.size w1.heap.size nx w) (fun _ _ => False)
    (fun _ _ _ h hc => h.stay (by have := HSZ.out; omega) (Nat.le_refl _) hc) (fun _ _ _ h _ => h) H0.out ?round ?done (fun _ _ _ _ _ h _ => h.elim)
  case round =>
    rintro l pre ⟨xb, xa⟩ W0 W hsz hi hg hgd
    simp only [Nat.reduceSub]
    dsimp only [Zmp]
    gi_wp2_with (fail)
    refine ⟨Grows.refl _, fun Wb hcw => ?_⟩
    obtain ⟨hxb, hxs, hxl, hxa⟩ := hgd
    dsimp only at hxb hxs hxl hxa
    have hcW : Zj V.heap.size W0 Wb := (Zj.grows hg).trans hcw
    obtain ⟨⟨FA, fc, hman0, hown0⟩, hlow0, hres0⟩ := hi
    obtain ⟨k, hk⟩ : ∃ k, pre.length = k := ⟨_, rfl⟩
    rw [hk] at hman0 hown0
    have HMI := hid (Zc8 (n₀ := w.heap.size) (m := w1.heap.size + 1) hown0)
    have hman := hcW.held hman0
    have hown := hcW.owned hown0
    have hres := hcW.held hres0
    have hlow := hlow0.trans (hcW.under (show w.heap.size ≤ V.heap.size by have := HSZ.out; omega) hlow0.size)
    obtain ⟨v, hv⟩ : ∃ v, valB xb = v := ⟨_, rfl⟩
    have hvs : V.heap.size ≤ Wb.heap.size := Nat.le_trans hsz (Zc.size hcW)
    have HLOW := hid (show ∀ g, (Value.slice FA k fc).ownBlock = some g → V.heap.size ≤ g ∧ g < Wb.heap.size from fun g hg => hown.lt g hg)
    have HX := hid (show ∀ w', Zc (fun g => (Value.slice FA k fc).ownBlock = some g) Wb w' → Sl w' xa 4 4 xb from fun w' hC => (hxs.cellwise hcw).spare hC fun ad e h => by
      have h1 := (HLOW.out _ h).1
      have h2 := hxa ad e
      have := HSZ.out
      omega)
    have HC := hid (show ∀ w', Zc (fun g => (Value.slice FA k fc).ownBlock = some g) Wb w' → w'.cell? { block := w1.heap.size, off := 0 } = some (.slice FA k fc) ∧ w'.frozen? { block := w1.heap.size, off := 0 } = false from fun w' hC => by
      have h1 := (show Whole Wb _ _ _ from hman).same (hC.same _ (Whole.lt hman) fun e => by have := (HLOW.out _ e).1; have := HSZ.out; omega)
      exact ⟨h1.cell 0, h1.free 0⟩)
    obtain ⟨ys, hys⟩ : ∃ ys, (pre.map fun x => valB x.1).map iV = ys := ⟨_, rfl⟩
    rw [hys] at hown
    obtain ⟨i0, hi0, hz0, hz1, hz2⟩ := info_parts infoI
    have HII := hid (And.intro hi0 (And.intro hz0 (And.intro hz1 hz2)))
    have HV := hid hv
    have HVS := hid hvs
    have HOWN := hid hown
    have HK := hid (show k ≤ 20000 by have := HLR.out; have := HKK.out; omega)
    have HP := hid (And.intro (show Whole Wb _ _ _ from hman) (And.intro (show Whole Wb _ _ _ from hres) (And.intro hlow (And.intro hk hys))))
    clear hxb hxs hxl hxa hcW hman0 hown0 hlow0 hres0 hman hown hres hlow hv hvs hk hys hi0 hz0 hz1 hz2 hcw hg hsz
    gi_wp2_with (fail)
    refine Zb1 (G := Grows) (E := Zc (fun g => (Value.slice FA k fc).ownBlock = some g)) 7 [Zu _ (.pointer (some ⟨w1.heap.size, 0, none⟩)), Zu _ (.slice FA k fc), Zu _ (.slice xa 4 4), Zu _ (.int .i64 v), Zo8 _ (3) (#[.int .i64 v]) 1, Zl5 _ V.heap.size 3 (.slice FA k fc) Wb.heap.size (k + 1) (ys ++ [.int .i64 v]), Zu _ (.pointer (some ⟨w1.heap.size, 0, none⟩))] [(false, false), (false, false), (false, false), (false, false), (false, false), (true, true), (false, false)] (fun w => w.ownsRow V.heap.size 3 1 (.slice FA k fc) k ys) rfl mixed (by kernel_rfl) (by kernel_rfl) (fun _ _ => Zc.grows) (fun _ _ _ => Zc.trans) (Jz _ _) (Zz HOWN.out fun _ _ => rfl) (fun _ _ h g => Zd h g) ?_
    simp only [List.take_succ_cons, List.take_zero, List.drop_succ_cons, List.drop_zero]
    refine j_val _ (by rfl) ?_ ?_
    · intro w' hC; clear hC; go_simp
    simp only [Pu]
    refine j_val _ (by rfl) ?_ ?_
    · intro w' hC; obtain ⟨z1, z2⟩ := HC.out w' hC; clear hC; go_simp
    simp only [Pu]
    refine j_val _ (by rfl) ?_ ?_
    · intro w' hC; clear hC; go_simp
    simp only [Pu]
    refine Ztv 236 #[.slice xa 4 4] (.int .i64 v) (by rfl) (by intro w' hC; clear hC; go_simp) ?_ ?_
    · intro w' hC hks; rw [← HV.out]; exact (J8 xa 4 4 xb w' (HX.out w' hC) (by omega)).mono fun e w'' ⟨he, hw⟩ => ⟨he, hw ▸ Grows.refl _⟩
    simp only [Pu]
    refine Ztw (3) (#[.int .i64 v]) 1 (fun g h => (HLOW.out g h).2) (by rfl) ?_ ?_
    · intro w' hC; clear hC; go_simp
    intro lg
    simp only [Pu]
    refine Zhu (A0 := FA) (n := k) (c0 := fc) (xs := ys) (A := some ⟨lg, 0, none⟩) (m := 1) (c := 1) (news := [v].map iV) ?_ (.tmp 37) (.tmp 40) 40 ?_ (B := Wb.heap.size) Tryz.underlying40 HII.out.1 HII.out.2.1 HII.out.2.2.1 HII.out.2.2.2 ?_ ?_ (.slice FA k fc) ?_ ?_ ?_ ?_ ?_ ?_ ?_ (Ztx [v]) (k + 1) rfl (ys ++ [.int .i64 v]) rfl ?_ ?_ HVS.out ?_ ?_
    · rfl
    · rfl
    · rfl
    · rfl
    · exact fun w' h => ⟨h, .inl rfl⟩
    · exact Nat.le_refl _
    · exact fun _ h => h
    · exact fun _ _ _ h _ => h
    · rfl
    · intro w' hC hks
      have hh := Known.get hks 0 rfl rfl
      exact ⟨_, (Ints.lit hh.1 [v] rfl (n := 1) rfl).row⟩
    · exact fun h => by cases h
    · unfold maxLen; have := HK.out; omega
    · have := HK.out; omega
    · exact fun _ _ _ _ h _ => h
    intro A1 c1
    simp only [Pu]
    refine j_val _ (by rfl) ?_ ?_
    · intro w' hC; clear hC; go_simp
    simp only [Pu]
    refine Zew ?_
    intro w5 hC hks hcls
    have HC5 := hid hC
    have HL5 := hid hcls
    obtain ⟨z1, z2⟩ := HC.out w5 hC
    clear hC hks hcls

    gi_wp2_with (fail)
    exact Zmn HSZ.out.2 HSZ.out.1 HVS.out HMI.out HP.out.1 HP.out.2.2.1 (Nat.le_refl _) HP.out.2.1 HP.out.2.2.2.1 HV.out HC5.out (by rw [HP.out.2.2.2.2]; exact HL5.out.1)
  case done =>
    intro D xs W hD hS hi hK
    obtain ⟨⟨FA, fc, hman, hown⟩, hlow, hres⟩ := hi
    obtain ⟨k, hk⟩ : ∃ k, xs.length = k := ⟨_, rfl⟩
    rw [hk] at hman hown
    have q0 := hman.cell 0
    have q1 := hman.cell 1
    have q2 := hres.free 0
    have q3 := hres.free 1
    have q4 := hres.cell 0
    have q5 := hres.cell 1
    simp only [Gt] at q0 q1 q4 q5
    have HH := hid (And.intro hown (And.intro hlow (And.intro hres (And.intro hD (And.intro hS (And.intro hK hk))))))
    clear hman hown hlow hres hD hS hK hk
    gi_wp2_with (fail)
    obtain ⟨hown, hlow, hres, hD, hS, hK, hk⟩ := HH.out
    have hsp : Zc (fun g => g = w.heap.size) W ((W.setCell ⟨w.heap.size, 0, none⟩ (.slice FA k fc)).setCell ⟨w.heap.size, 1, none⟩ (.int .i64 nx)) := ((Zc.refl (fun g => g = w.heap.size) W).setCell (p := ⟨w.heap.size, 0, none⟩) rfl _).setCell (p := ⟨w.heap.size, 1, none⟩) rfl _
    have hK6 := (hsp.same D (Array.getElem?_eq_some_iff.1 hK).1 (by have := HSZ.out; omega)).trans hK
    have hres6 : Whole ((W.setCell ⟨w.heap.size, 0, none⟩ (.slice FA k fc)).setCell ⟨w.heap.size, 1, none⟩ (.int .i64 nx)) w.heap.size 96 #[.slice FA k fc, .int .i64 nx] := (hres.put 0 _).put 1 _
    have hown6 := Zz hown fun g hg => hsp.same g (hown.lt g hg).2 (by have := (hown.lt g hg).1; have := HSZ.out; omega)
    have hlow6 := hlow.trans (hsp.below hlow.size fun g hg e => by omega)
    refine ⟨by simp, .inl ⟨_, _, rfl, run_takeDeferred hK6, ?_⟩⟩
    have hcw := Zj.putObj hK6 rfl hD (.deferred none)
    refine ⟨.tuple #[.agg #[.slice FA k fc, .int .i64 nx], .bool true], Yb rfl _ _ w.heap.size _ _ _ (.bool true) rfl rfl (hcw.held hres6), FA, k, fc, rfl, ?_, hlow6.trans (hcw.under (show w.heap.size ≤ V.heap.size by have := HSZ.out; omega) hlow6.size)⟩
    rw [show (mnOf (some ⟨foursL (bs.drop 7), nx⟩)).segs = foursL (bs.drop 7) from rfl, ← hS]
    exact Zh (hcw.owned hown6) (show w.heap.size ≤ V.heap.size by have := HSZ.out; omega)
end Go.Proofs.YtkelafkbmnjpeaaGreat
