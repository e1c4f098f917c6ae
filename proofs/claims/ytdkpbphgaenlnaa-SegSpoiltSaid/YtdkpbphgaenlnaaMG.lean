/-
  Texts that the statements' proofs lean on, one behind the other.
-/
import Derived.Test.YtdkpbphgaenlnaaMH
import Derived.Test.YtdkpbphgaenlnaaMI
import Derived.Test.YtdkpbphgaenlnaaAppAt
import Derived.Test.YtdkpbphgaenlnaaMC
import Derived.Test.YtdkpbphgaenlnaaAll
import Derived.Test.YtdkpbphgaenlnaaME
import Derived.Test.YtdkpbphgaenlnaaMJ
import Derived.OwnWalk
import Derived.Test.YtdkpbphgaenlnaaMO
import Derived.Test.YtdkpbphgaenlnaaMF
import Derived.Test.YtdkpbphgaenlnaaMR
/-
  Segments: All.
-/
namespace Go.Proofs.Ytdkpbphgaenlnaa
open Go.RowKit Go.Shelf
set_option linter.unusedVariables false
set_option linter.unusedSimpArgs false
attribute [local go_sem] Oper.semAt_some
/-- What has been found between two rounds: the list in block b, how many have no record in block s. -/
structure SgHas (n₀ m : Nat) (b s bad : Nat) (w : World) (pre : List Rx) (W : World) : Prop where
  list : ∃ A c, Boxed W b 56 (.slice A (fnsR pre).length c) ∧ W.ownsRow m 63 9 (.slice A (fnsR pre).length c) (fnsR pre).length ((fnsR pre).flatMap fnE)
  recs : ∀ p ∈ fnsR pre, RcOwn W m p.2.1.1 p.2.1.2.1 p.2.1.2.2 p.2.2.1 p.2.2.2.1 p.2.2.2.2 p.1.2.2
  bad : Boxed W s 3 (.int .i64 ((bad + badR pre : Nat) : Int))
  low : Below n₀ w W
theorem SgHas.stay {n₀ m b s bad B : Nat} {w X Y : World} {pre : List Rx} (hB : n₀ ≤ B) (hw : n₀ ≤ w.heap.size) (h : SgHas n₀ m b s bad w pre X) (hc : Cellwise B X Y) : SgHas n₀ m b s bad w pre Y := by
  obtain ⟨⟨A, c, h1, h2⟩, h3, h4, h5⟩ := h
  exact ⟨⟨A, c, hc.boxed h1, hc.owned h2⟩, fun p hp => ⟨hc.owned (h3 p hp).locs, (h3 p hp).len, hc.owned (h3 p hp).b⟩, hc.boxed h4, h5.trans (hc.under hB (Nat.le_trans hw h5.size))⟩
/-- One more that has no record. -/
theorem has_bad {n₀ b bad k fc : Nat} {V W0 Wb w : World} {pre : List Rx} {x : Rx} {FA : Option Addr} {bz : Int} (hsb : n₀ < b) (hV : V.heap.size = b + 1 + 1) (lb : Boxed Wb b 56 (.slice FA k fc)) (lown : Wb.ownsRow V.heap.size 63 9 (.slice FA k fc) k ((fnsR pre).flatMap fnE))
    (lrec : ∀ p ∈ fnsR pre, RcOwn Wb V.heap.size p.2.1.1 p.2.1.2.1 p.2.1.2.2 p.2.2.1 p.2.2.2.1 p.2.2.2.2 p.1.2.2) (lbad : Boxed Wb n₀ 3 (.int .i64 bz)) (llow : Below n₀ w Wb) (hw : n₀ ≤ w.heap.size) (hk : (fnsR pre).length = k) (hs : fnsR (pre ++ [x]) = fnsR pre) (hb : badR (pre ++ [x]) = badR pre + 1) (hbz : ((bad + badR pre : Nat) : Int) = bz) :
    Spares (Mine n₀ (b + 1) V.heap.size W0) Wb (Wb.setCell ⟨n₀, 0, none⟩ (.int .i64 (bz + 1))) ∧ SgHas n₀ V.heap.size b n₀ bad w (pre ++ [x]) (Wb.setCell ⟨n₀, 0, none⟩ (.int .i64 (bz + 1))) := by
  have hsp : Spares (fun k => k = n₀) Wb (Wb.setCell ⟨n₀, 0, none⟩ (.int .i64 (bz + 1))) := (Spares.refl (fun k => k = n₀) Wb).setCell (p := ⟨n₀, 0, none⟩) rfl _
  have own1 : ∀ {e size : Nat} {v : Value} {n : Nat} {ys : List Value}, Wb.ownsRow V.heap.size e size v n ys → (Wb.setCell ⟨n₀, 0, none⟩ (.int .i64 (bz + 1))).ownsRow V.heap.size e size v n ys := fun h => ownsRow_setCell_below h (by dsimp only; omega) _
  refine ⟨hsp.wider fun k _ hk => .inl (by omega), ⟨FA, fc, ?_, ?_⟩, ?_, ?_, ?_⟩
  · rw [hs, hk]; exact (hsp.same _ lb.lt (by omega)).trans lb
  · rw [hs, hk]; exact own1 lown
  · rw [hs]; exact fun p hp => ⟨own1 (lrec p hp).locs, (lrec p hp).len, own1 (lrec p hp).b⟩
  · rw [hb, show ((bad + (badR pre + 1) : Nat) : Int) = bz + 1 by omega]
    exact Whole.put (show Whole Wb n₀ _ #[_] from lbad) 0 _
  · exact llow.trans (hsp.below (Nat.le_trans hw llow.size) fun k hk e => by omega)
/-- One more that has one. -/
theorem has_one {n₀ b bad k fc cap1 : Nat} {V W0 Wb w w5 : World} {pre : List Rx} {x : Rx} {p : Fn × Fh} {FA A1 : Option Addr} {obj : Obj} (hsb : n₀ < b) (hV : V.heap.size = b + 1 + 1) (hVW : V.heap.size ≤ Wb.heap.size) (hmi : ∀ g, (Value.slice FA k fc).ownBlock = some g → V.heap.size ≤ g ∧ Mine n₀ (b + 1) V.heap.size W0 g)
    (lown : Wb.ownsRow V.heap.size 63 9 (.slice FA k fc) k ((fnsR pre).flatMap fnE))
    (lrec : ∀ p ∈ fnsR pre, RcOwn Wb V.heap.size p.2.1.1 p.2.1.2.1 p.2.1.2.2 p.2.2.1 p.2.2.2.1 p.2.2.2.2 p.1.2.2) (lbad : Boxed Wb n₀ 3 (.int .i64 ((bad + badR pre : Nat) : Int))) (llow : Below n₀ w Wb) (hw : n₀ ≤ w.heap.size) (hk : (fnsR pre).length = k) (hs : fnsR (pre ++ [x]) = fnsR pre ++ [p]) (hb : badR (pre ++ [x]) = badR pre)
    (hp : RcOwn Wb V.heap.size p.2.1.1 p.2.1.2.1 p.2.1.2.2 p.2.2.1 p.2.2.2.1 p.2.2.2.2 p.1.2.2) (y4 : Boxed w5 b 56 (.slice FA k fc)) (hown1 : w5.ownsRow V.heap.size 63 9 (.slice A1 (k + 1) cap1) (k + 1) ((fnsR pre).flatMap fnE ++ fnE p)) (hgrow1 : (Wb.alloc obj).grownBy w5 (Value.slice FA k fc).ownBlock) :
    Spares (Mine n₀ (b + 1) V.heap.size W0) Wb (w5.setCell ⟨b, 0, none⟩ (.slice A1 (k + 1) cap1)) ∧ SgHas n₀ V.heap.size b n₀ bad w (pre ++ [x]) (w5.setCell ⟨b, 0, none⟩ (.slice A1 (k + 1) cap1)) := by
  have hsp5 : Spares (fun k => k = b) w5 (w5.setCell ⟨b, 0, none⟩ (.slice A1 (k + 1) cap1)) := (Spares.refl (fun k => k = b) w5).setCell (p := ⟨b, 0, none⟩) rfl _
  have own1 : ∀ {e size : Nat} {v : Value} {n : Nat} {ys : List Value}, Wb.ownsRow V.heap.size e size v n ys → e ≠ 63 → (w5.setCell ⟨b, 0, none⟩ (.slice A1 (k + 1) cap1)).ownsRow V.heap.size e size v n ys := fun h hne =>
    ownsRow_setCell_below ((h.alloc obj).kept hgrow1 (own_apart (h.alloc obj) (lown.alloc obj) hne)) (by dsimp only; omega) _
  have hspY : Spares (Mine n₀ (b + 1) V.heap.size W0) Wb (w5.setCell ⟨b, 0, none⟩ (.slice A1 (k + 1) cap1)) :=
    ((Spares.grows (grows_alloc Wb obj)).grown hgrow1 (fun g hg => (hmi g hg).2)).trans (hsp5.wider fun k _ hk => .inl (by omega))
  have keep : ∀ {q : Nat} {t : TypeId} {v : Value}, Boxed Wb q t v → q < V.heap.size → q ≠ b → Boxed (w5.setCell ⟨b, 0, none⟩ (.slice A1 (k + 1) cap1)) q t v := fun h h1 h2 =>
    (hsp5.same _ (by have := hgrow1.size; rw [World.size_alloc] at this; have := h.lt; omega) h2).trans ((hgrow1.block _ (by rw [World.size_alloc]; have := h.lt; omega) fun e => by have := (hmi _ e.symm).1; omega).trans (((grows_alloc Wb obj).block _ h.lt).trans h))
  refine ⟨hspY, ⟨A1, cap1, ?_, ?_⟩, fun q hq => ?_, ?_, ?_⟩
  · rw [hs, List.length_append, hk]
    exact Whole.put (show Whole w5 b _ #[_] from y4) 0 _
  · rw [hs, List.length_append, hk, List.flatMap_append]
    have : [p].flatMap fnE = fnE p := by simp
    rw [this]
    exact ownsRow_setCell_below hown1 (by dsimp only; omega) _
  · rw [hs] at hq
    have hq' : RcOwn Wb V.heap.size q.2.1.1 q.2.1.2.1 q.2.1.2.2 q.2.2.1 q.2.2.2.1 q.2.2.2.2 q.1.2.2 := by
      rcases List.mem_append.1 hq with h | h
      · exact lrec q h
      · rw [List.mem_singleton.1 h]; exact hp
    exact ⟨own1 hq'.locs (by decide), hq'.len, own1 hq'.b (by decide)⟩
  · rw [hb]
    exact keep lbad (by omega) (by omega)
  · refine llow.trans (hspY.below (Nat.le_trans hw llow.size) fun q hq h => ?_)
    rcases h with h | h
    · omega
    · have := h.1; omega
def segAllP (m : Dk) (n : Int) : List Fn × Int × Int :=
  if (m.read (nmS n) 0 (m.size (nmS n)).1).2 = 0 then
    (if beginsP (allB ((m.read (nmS n) 0 (m.size (nmS n)).1).1.getD []) 0).1 n = true then
      (fnsP ((allB ((m.read (nmS n) 0 (m.size (nmS n)).1).1.getD []) 0).1.drop 1), (((allB ((m.read (nmS n) 0 (m.size (nmS n)).1).1.getD []) 0).2.1 + badP ((allB ((m.read (nmS n) 0 (m.size (nmS n)).1).1.getD []) 0).1.drop 1) : Nat) : Int), 0)
     else ([], 0, 22))
  else ([], 0, (m.read (nmS n) 0 (m.size (nmS n)).1).2)
theorem fnsR_len (l : List Rx) : (fnsR l).length ≤ l.length := by unfold fnsR; rw [List.length_map]; exact List.length_filter_le _ _
theorem badR_len (l : List Rx) : badR l ≤ l.length := List.length_filter_le _ _
theorem firstB_short {bs y : List UInt8} {k e : Nat} (h : firstB bs = (y, k, e)) : y.length ≤ bs.length := by
  have h1 : (firstB bs).1.length ≤ bs.length := by
    unfold firstB
    repeat' split
    all_goals (try simp only [List.length_nil, List.length_take, List.length_drop]) <;> omega
  rw [h] at h1
  exact h1
theorem all_bodies : ∀ (N : Nat) (bs : List UInt8) (a : Nat), bs.length ≤ N → ∀ t ∈ (allB bs a).1, t.2.2.length ≤ bs.length
  | 0, bs, a, hN, t, ht => by
    have hb : bs = [] := List.eq_nil_of_length_eq_zero (by omega)
    subst hb
    simp [allB_nil] at ht
  | N + 1, bs, a, hN, t, ht => by
    by_cases hb : bs = []
    · subst hb
      simp [allB_nil] at ht
    obtain ⟨⟨y, k, e⟩, h⟩ : ∃ r, firstB bs = r := ⟨_, rfl⟩
    obtain ⟨hk, hk0, _⟩ := first_size h
    have hpos : 0 < bs.length := List.length_pos_iff.2 hb
    by_cases he : e = 0
    · subst he
      have hk0 := hk0 rfl
      rw [allB_got hb h] at ht
      rcases List.mem_cons.1 ht with rfl | ht
      · exact firstB_short h
      · have := all_bodies N (bs.drop k) (a + k) (by rw [List.length_drop]; omega) t ht
        rw [List.length_drop] at this
        omega
    · by_cases hz : k = 0
      · subst hz
        rw [allB_stop hb h he] at ht
        cases ht
      · rw [allB_bad hb h he hz] at ht
        have := all_bodies N (bs.drop k) (a + k) (by rw [List.length_drop]; omega) t ht
        rw [List.length_drop] at this
        omega
theorem begins_len {ts : List It} {n : Int} (h : beginsP ts n = true) : 1 ≤ ts.length := by
  cases ts with
  | nil => cases h
  | cons t ts => simp
section
variable {B d K : Nat} {w0 w : World} {out : Nat → Prop} {m : Dk}
set_option maxRecDepth 100000 in
set_option maxHeartbeats 8000000 in
theorem segAll_any (w : World) (n : Int) (hn : 0 ≤ n ∧ n ≤ 99999999) (h : DkIn B w0 w d out m) (ok : DkOk K m) (hK : K ≤ 1000000) :
    Calls Try.prog 34 #[.pointer (some ⟨d, 0, none⟩), .int .i64 n] w fun e w' => ∃ A c l, e = .returned (.tuple #[.slice A l.length c, .int .i64 (segAllP m n).2.1, .int .i64 (segAllP m n).2.2]) ∧ FnOwn w.heap.size w' A l.length c l ∧ l.map (·.1) = (segAllP m n).1 ∧ Grows w w' := by
  have HO := Lib.hid (fun w' => segOf_any w' d n)
  obtain ⟨⟨sv, sb⟩, hsz⟩ : ∃ q, m.size (nmS n) = q := ⟨_, rfl⟩
  have HSZ := Lib.hid (fun w' (hg : Grows w w') => segSize_any w' n (h.grow hg) hsz)
  have HBG := Lib.hid (fun w' {A : Option Addr} {k c : Nat} {ts : List It} (hI : Items w' A k c ts) => begins_any w' d n hn hI)
  unfold segAllP
  rw [hsz]
  dsimp only
  have hsv : 0 ≤ sv ∧ sv ≤ 1000000 := by
    obtain ⟨own, G, h1, _⟩ := h
    unfold Dk.size at hsz
    cases hf : Dir.find (nmS n) m.names with
    | none => rw [hf] at hsz; injection hsz with h2 _; omega
    | some f =>
      rw [hf] at hsz
      injection hsz with h2 _
      have := (ok.bytes f (h1.find_lt (by have := nmS_small n; unfold maxLen; omega) hf)).1
      omega
  obtain ⟨⟨rb, re⟩, hrd⟩ : ∃ q, m.read (nmS n) 0 sv = q := ⟨_, rfl⟩
  have hrlen := fun h0 => read_len (m := m) (n := nmS n) (x := 0) (k := sv) h0
  rw [hrd] at hrlen ⊢
  dsimp only at hrlen ⊢
  have hrr := fun w' (hg : Grows w w') => read_got (nmS n) 0 sv (h.grow hg) ok (by omega) (by have := nmS_small n; omega) (by omega) (by omega) hrd
  obtain ⟨bs, hbs⟩ : ∃ q, rb.getD [] = q := ⟨_, rfl⟩
  unfold GotTo at hrr
  dsimp only at hrr
  rw [hbs] at hrr ⊢
  unfold segV at HO HSZ HBG
  obtain ⟨s, hs⟩ : ∃ s : ByteArray, (⟨(nmS n).toArray⟩ : ByteArray) = s := ⟨_, rfl⟩
  rw [hs] at HO HSZ hrr HBG
  have HRR := Lib.hid hrr
  have hbl : re = 0 → bs.length ≤ 1000000 := fun h0 => by
    obtain ⟨b, e, hl⟩ := hrlen h0
    rw [← hbs, e]
    show b.length ≤ 1000000
    omega
  clear h ok hK hsz hrd hrlen hrr hbs hs
  have hmix : Try.prog.follows .mixedOrders = true := by kernel_rfl
  refine (callsIn_wide (n := 3)).1 ?_
  by_cases hre : re = 0
  rotate_left 1
  · have hzb : (re != 0) = true := by rw [bne_iff_ne]; exact hre
    rw [if_neg hre]
    clear hre hbl
    refine callsIn_of_wp_marks Try.func34 rfl trivial ?_ rfl
    simp only [Try.ntmps34, List.size_toArray, List.length_cons, List.length_nil, Nat.reduceAdd, Nat.reduceSub, Array.replicate_succ, Array.replicate_zero, List.push_toArray, List.append_toArray, List.nil_append, List.cons_append]
    gi_wp2_with (fail)
    refine ⟨trivial, (callsIn_wide.2 (HO.out w)).mono ?_⟩
    rintro e w1 ⟨rfl, hg1⟩
    gi_wp2_with (fail)
    have hwm := Whole.made w1 107 #[.pointer (some ⟨d, 0, none⟩), .int .i64 n, .string s]
    have HG1 := Lib.hid (Grows.trans hg1 (grows_alloc w1 (.cells #[.pointer (some ⟨d, 0, none⟩), .int .i64 n, .string s] 107)))
    have HWM := Lib.hid hwm
    have HCC := Lib.hid (show ∀ w', Grows (w1.alloc (.cells #[.pointer (some ⟨d, 0, none⟩), .int .i64 n, .string s] 107)) w' → w'.cell? { block := w1.heap.size, off := 0 } = some (.pointer (some ⟨d, 0, none⟩)) ∧ w'.cell? { block := w1.heap.size, off := 1 } = some (.int .i64 n) ∧ w'.cell? { block := w1.heap.size, off := 2 } = some (.string s) from fun w' hC => by
      have hx := hC.whole HWM.out
      exact ⟨hx.cell 0, hx.cell 1, hx.cell 2⟩)
    clear hg1 hwm
    refine wpIn_wide.2 ?_
    refine wp_region_facts (E := Grows) [valFact (.pointer (some ⟨w1.heap.size, 0, none⟩)), valFact (.pointer (some ⟨d, 0, none⟩)), valFact (.pointer (some ⟨w1.heap.size, 2, none⟩)), valFact (.string s), valFact (.agg #[.pointer (some ⟨d, 0, none⟩), .int .i64 n, .string s]), valFact (.int .i64 sv), gotFact (bs) (re), gotFact (bs) (re), slFact (bs), valFact (.int .i64 re), slFact (bs), valFact (.int .i64 re)] (by kernel_rfl) (by kernel_rfl) (fun _ _ _ => Grows.trans) (grows_drew _) ?_
    refine f_val (.pointer (some ⟨w1.heap.size, 0, none⟩)) (by rfl) ?_ ?_
    · intro w' hC; clear hC; first | (go_simp; done)
    simp only [Act.put, List.setIfInBounds_toArray, List.set_cons_zero, List.set_cons_succ]
    refine f_val (.pointer (some ⟨d, 0, none⟩)) (by rfl) ?_ ?_
    · intro w' hC; obtain ⟨z1, z2, z3⟩ := HCC.out w' hC; clear hC; first | (go_simp; done)
    simp only [Act.put, List.setIfInBounds_toArray, List.set_cons_zero, List.set_cons_succ]
    refine f_val (.pointer (some ⟨w1.heap.size, 2, none⟩)) (by rfl) ?_ ?_
    · intro w' hC; clear hC; first | (go_simp; done)
    simp only [Act.put, List.setIfInBounds_toArray, List.set_cons_zero, List.set_cons_succ]
    refine f_val (.string s) (by rfl) ?_ ?_
    · intro w' hC; obtain ⟨z1, z2, z3⟩ := HCC.out w' hC; clear hC; first | (go_simp; done)
    simp only [Act.put, List.setIfInBounds_toArray, List.set_cons_zero, List.set_cons_succ]
    refine f_val (.agg #[.pointer (some ⟨d, 0, none⟩), .int .i64 n, .string s]) (by rfl) ?_ ?_
    · intro w' hC; obtain ⟨z1, z2, z3⟩ := HCC.out w' hC; clear hC; first | (go_simp; done)
    simp only [Act.put, List.setIfInBounds_toArray, List.set_cons_zero, List.set_cons_succ]
    refine f_call 70 #[.agg #[.pointer (some ⟨d, 0, none⟩), .int .i64 n, .string s]] (.int .i64 sv) (by rfl) (by intro w' hC; clear hC; go_simp) ?_ ?_
    · intro w' hC hks; exact HSZ.out w' (Grows.trans HG1.out hC)
    simp only [Act.put, List.setIfInBounds_toArray, List.set_cons_zero, List.set_cons_succ]
    refine f_got (bs) (re) 60 #[.pointer (some ⟨d, 0, none⟩), .string s, .int .i64 0, .int .i64 sv] (by rfl) (by intro w' hC; clear hC; go_simp) ?_ ?_
    · intro w' hC hks; exact HRR.out w' (Grows.trans HG1.out hC)
    intro Q1 p1
    simp only [Act.put, List.setIfInBounds_toArray, List.set_cons_zero, List.set_cons_succ]
    refine f_gotv (bs) (re) Q1 p1 (by rfl) ?_ ?_
    · intro w' hC hks; refine ⟨?_, Known.get hks 0 rfl rfl⟩; clear hC hks; first | (go_simp; done)
    intro Q2 p2
    simp only [Act.put, List.setIfInBounds_toArray, List.set_cons_zero, List.set_cons_succ]
    refine f_slv (bs) Q2 p2 (by rfl) ?_ ?_
    · intro w' hC hks; refine ⟨?_, Known.get hks 0 rfl rfl⟩; clear hC hks; first | (go_simp; done)
    intro Q3 p3
    simp only [Act.put, List.setIfInBounds_toArray, List.set_cons_zero, List.set_cons_succ]
    refine f_val (.int .i64 re) (by rfl) ?_ ?_
    · intro w' hC; clear hC; first | (go_simp; done)
    simp only [Act.put, List.setIfInBounds_toArray, List.set_cons_zero, List.set_cons_succ]
    refine f_slv (bs) Q3 p3 (by rfl) ?_ ?_
    · intro w' hC hks; refine ⟨?_, Known.get hks 0 rfl rfl⟩; clear hC hks; first | (go_simp; done)
    intro QA qc
    simp only [Act.put, List.setIfInBounds_toArray, List.set_cons_zero, List.set_cons_succ]
    refine f_val (.int .i64 re) (by rfl) ?_ ?_
    · intro w' hC; clear hC; first | (go_simp; done)
    simp only [Act.put, List.setIfInBounds_toArray, List.set_cons_zero, List.set_cons_succ]
    refine wpF_end ?_
    intro w2 hC hks
    have HCw2 := Lib.hid hC
    have HSQ := Lib.hid (Known.at hks 0 rfl)
    clear hC hks
    gi_wp2_with (fail)
    refine ⟨.tuple #[.slice none 0 0, .int .i64 0, .int .i64 re], by simp [results, Try.results34, go_sem], none, 0, [], rfl, FnOwn.nil _ _, rfl, Grows.trans HG1.out HCw2.out⟩
  subst hre
  rw [if_pos rfl]
  have HBL := Lib.hid (hbl rfl)
  clear hbl
  obtain ⟨ts, hts⟩ : ∃ q, (allB bs 0).1 = q := ⟨_, rfl⟩
  obtain ⟨bd, hbd⟩ : ∃ q, (allB bs 0).2.1 = q := ⟨_, rfl⟩
  rw [hts, hbd]
  have HTS := Lib.hid hts
  have HBD := Lib.hid hbd
  clear hts hbd
  obtain ⟨be, hbe⟩ : ∃ q, beginsP ts n = q := ⟨_, rfl⟩
  rw [hbe]
  have HBE := Lib.hid hbe
  clear hbe
  cases be with
  | false =>
    rw [if_neg (by decide)]
    refine callsIn_of_wp_marks Try.func34 rfl trivial ?_ rfl
    simp only [Try.ntmps34, List.size_toArray, List.length_cons, List.length_nil, Nat.reduceAdd, Nat.reduceSub, Array.replicate_succ, Array.replicate_zero, List.push_toArray, List.append_toArray, List.nil_append, List.cons_append]
    gi_wp2_with (fail)
    refine ⟨trivial, (callsIn_wide.2 (HO.out w)).mono ?_⟩
    rintro e w1 ⟨rfl, hg1⟩
    gi_wp2_with (fail)
    have hwm := Whole.made w1 107 #[.pointer (some ⟨d, 0, none⟩), .int .i64 n, .string s]
    have HG1 := Lib.hid (Grows.trans hg1 (grows_alloc w1 (.cells #[.pointer (some ⟨d, 0, none⟩), .int .i64 n, .string s] 107)))
    have HWM := Lib.hid hwm
    have HCC := Lib.hid (show ∀ w', Grows (w1.alloc (.cells #[.pointer (some ⟨d, 0, none⟩), .int .i64 n, .string s] 107)) w' → w'.cell? { block := w1.heap.size, off := 0 } = some (.pointer (some ⟨d, 0, none⟩)) ∧ w'.cell? { block := w1.heap.size, off := 1 } = some (.int .i64 n) ∧ w'.cell? { block := w1.heap.size, off := 2 } = some (.string s) from fun w' hC => by
      have hx := hC.whole HWM.out
      exact ⟨hx.cell 0, hx.cell 1, hx.cell 2⟩)
    clear hg1 hwm
    refine wpIn_wide.2 ?_
    refine wp_region_facts (E := Grows) [valFact (.pointer (some ⟨w1.heap.size, 0, none⟩)), valFact (.pointer (some ⟨d, 0, none⟩)), valFact (.pointer (some ⟨w1.heap.size, 2, none⟩)), valFact (.string s), valFact (.agg #[.pointer (some ⟨d, 0, none⟩), .int .i64 n, .string s]), valFact (.int .i64 sv), gotFact (bs) (0), gotFact (bs) (0), slFact (bs), valFact (.int .i64 0), slFact (bs), valFact (.int .i64 0)] (by kernel_rfl) (by kernel_rfl) (fun _ _ _ => Grows.trans) (grows_drew _) ?_
    refine f_val (.pointer (some ⟨w1.heap.size, 0, none⟩)) (by rfl) ?_ ?_
    · intro w' hC; clear hC; first | (go_simp; done)
    simp only [Act.put, List.setIfInBounds_toArray, List.set_cons_zero, List.set_cons_succ]
    refine f_val (.pointer (some ⟨d, 0, none⟩)) (by rfl) ?_ ?_
    · intro w' hC; obtain ⟨z1, z2, z3⟩ := HCC.out w' hC; clear hC; first | (go_simp; done)
    simp only [Act.put, List.setIfInBounds_toArray, List.set_cons_zero, List.set_cons_succ]
    refine f_val (.pointer (some ⟨w1.heap.size, 2, none⟩)) (by rfl) ?_ ?_
    · intro w' hC; clear hC; first | (go_simp; done)
    simp only [Act.put, List.setIfInBounds_toArray, List.set_cons_zero, List.set_cons_succ]
    refine f_val (.string s) (by rfl) ?_ ?_
    · intro w' hC; obtain ⟨z1, z2, z3⟩ := HCC.out w' hC; clear hC; first | (go_simp; done)
    simp only [Act.put, List.setIfInBounds_toArray, List.set_cons_zero, List.set_cons_succ]
    refine f_val (.agg #[.pointer (some ⟨d, 0, none⟩), .int .i64 n, .string s]) (by rfl) ?_ ?_
    · intro w' hC; obtain ⟨z1, z2, z3⟩ := HCC.out w' hC; clear hC; first | (go_simp; done)
    simp only [Act.put, List.setIfInBounds_toArray, List.set_cons_zero, List.set_cons_succ]
    refine f_call 70 #[.agg #[.pointer (some ⟨d, 0, none⟩), .int .i64 n, .string s]] (.int .i64 sv) (by rfl) (by intro w' hC; clear hC; go_simp) ?_ ?_
    · intro w' hC hks; exact HSZ.out w' (Grows.trans HG1.out hC)
    simp only [Act.put, List.setIfInBounds_toArray, List.set_cons_zero, List.set_cons_succ]
    refine f_got (bs) (0) 60 #[.pointer (some ⟨d, 0, none⟩), .string s, .int .i64 0, .int .i64 sv] (by rfl) (by intro w' hC; clear hC; go_simp) ?_ ?_
    · intro w' hC hks; exact HRR.out w' (Grows.trans HG1.out hC)
    intro Q1 p1
    simp only [Act.put, List.setIfInBounds_toArray, List.set_cons_zero, List.set_cons_succ]
    refine f_gotv (bs) (0) Q1 p1 (by rfl) ?_ ?_
    · intro w' hC hks; refine ⟨?_, Known.get hks 0 rfl rfl⟩; clear hC hks; first | (go_simp; done)
    intro Q2 p2
    simp only [Act.put, List.setIfInBounds_toArray, List.set_cons_zero, List.set_cons_succ]
    refine f_slv (bs) Q2 p2 (by rfl) ?_ ?_
    · intro w' hC hks; refine ⟨?_, Known.get hks 0 rfl rfl⟩; clear hC hks; first | (go_simp; done)
    intro Q3 p3
    simp only [Act.put, List.setIfInBounds_toArray, List.set_cons_zero, List.set_cons_succ]
    refine f_val (.int .i64 0) (by rfl) ?_ ?_
    · intro w' hC; clear hC; first | (go_simp; done)
    simp only [Act.put, List.setIfInBounds_toArray, List.set_cons_zero, List.set_cons_succ]
    refine f_slv (bs) Q3 p3 (by rfl) ?_ ?_
    · intro w' hC hks; refine ⟨?_, Known.get hks 0 rfl rfl⟩; clear hC hks; first | (go_simp; done)
    intro QA qc
    simp only [Act.put, List.setIfInBounds_toArray, List.set_cons_zero, List.set_cons_succ]
    refine f_val (.int .i64 0) (by rfl) ?_ ?_
    · intro w' hC; clear hC; first | (go_simp; done)
    simp only [Act.put, List.setIfInBounds_toArray, List.set_cons_zero, List.set_cons_succ]
    refine wpF_end ?_
    intro w2 hC hks
    have HCw2 := Lib.hid hC
    have HSQ := Lib.hid (Known.at hks 0 rfl)
    clear hC hks
    gi_wp2_with (fail)
    refine ⟨trivial, (callsIn_wide.2 (all_in QA bs.length qc bs w2 HSQ.out HBL.out)).mono ?_⟩
    rintro e w3 ⟨IA, ic, ih, rfl, hown, hbod, hlow⟩
    have hit := items_own (c := ic) rfl hown hbod
    have HG3 := Lib.hid (Grows.trans HG1.out (Grows.trans HCw2.out hlow))
    have hC3 := Grows.trans HCw2.out hlow
    have HC3 := Lib.hid hC3
    have HIT := Lib.hid hit
    clear hown hbod hlow hit hC3
    rw [HTS.out] at HIT
    rw [HTS.out, HBD.out]
    obtain ⟨z0, z1, z2⟩ := HCC.out (w3.alloc (.cells #[.int .i64 (bd : Nat)] 3)) (Grows.trans HC3.out (grows_alloc _ _))
    gi_wp2_with (fail)
    refine ⟨trivial, (callsIn_wide.2 (HBG.out _ (HIT.out.grow (grows_alloc w3 (.cells #[.int .i64 (bd : Nat)] 3))))).mono ?_⟩
    rintro e w4 ⟨rfl, hg4⟩
    rw [HBE.out]
    have hm4 := hg4.whole (Whole.made w3 3 #[.int .i64 (bd : Nat)])
    have HG4 := Lib.hid (And.intro hg4 hm4)
    clear hg4 hm4 z0 z1 z2
    gi_wp2_with (fail)
    refine ⟨.tuple #[.slice none 0 0, .int .i64 0, .int .i64 22], by simp [results, Try.results34, go_sem], none, 0, [], rfl, FnOwn.nil _ _, rfl, Grows.trans HG3.out (Grows.trans (grows_alloc _ _) HG4.out.1)⟩
  | true =>
    rw [if_pos rfl]
    have HLE := Lib.hid (begins_len HBE.out)
    refine callsIn_of_wp_marks Try.func34 rfl trivial ?_ rfl
    simp only [Try.ntmps34, List.size_toArray, List.length_cons, List.length_nil, Nat.reduceAdd, Nat.reduceSub, Array.replicate_succ, Array.replicate_zero, List.push_toArray, List.append_toArray, List.nil_append, List.cons_append]
    gi_wp2_with (fail)
    refine ⟨trivial, (callsIn_wide.2 (HO.out w)).mono ?_⟩
    rintro e w1 ⟨rfl, hg1⟩
    gi_wp2_with (fail)
    have hwm := Whole.made w1 107 #[.pointer (some ⟨d, 0, none⟩), .int .i64 n, .string s]
    have HG1 := Lib.hid (Grows.trans hg1 (grows_alloc w1 (.cells #[.pointer (some ⟨d, 0, none⟩), .int .i64 n, .string s] 107)))
    have HWM := Lib.hid hwm
    have HCC := Lib.hid (show ∀ w', Grows (w1.alloc (.cells #[.pointer (some ⟨d, 0, none⟩), .int .i64 n, .string s] 107)) w' → w'.cell? { block := w1.heap.size, off := 0 } = some (.pointer (some ⟨d, 0, none⟩)) ∧ w'.cell? { block := w1.heap.size, off := 1 } = some (.int .i64 n) ∧ w'.cell? { block := w1.heap.size, off := 2 } = some (.string s) from fun w' hC => by
      have hx := hC.whole HWM.out
      exact ⟨hx.cell 0, hx.cell 1, hx.cell 2⟩)
    clear hg1 hwm
    refine wpIn_wide.2 ?_
    refine wp_region_facts (E := Grows) [valFact (.pointer (some ⟨w1.heap.size, 0, none⟩)), valFact (.pointer (some ⟨d, 0, none⟩)), valFact (.pointer (some ⟨w1.heap.size, 2, none⟩)), valFact (.string s), valFact (.agg #[.pointer (some ⟨d, 0, none⟩), .int .i64 n, .string s]), valFact (.int .i64 sv), gotFact (bs) (0), gotFact (bs) (0), slFact (bs), valFact (.int .i64 0), slFact (bs), valFact (.int .i64 0)] (by kernel_rfl) (by kernel_rfl) (fun _ _ _ => Grows.trans) (grows_drew _) ?_
    refine f_val (.pointer (some ⟨w1.heap.size, 0, none⟩)) (by rfl) ?_ ?_
    · intro w' hC; clear hC; first | (go_simp; done)
    simp only [Act.put, List.setIfInBounds_toArray, List.set_cons_zero, List.set_cons_succ]
    refine f_val (.pointer (some ⟨d, 0, none⟩)) (by rfl) ?_ ?_
    · intro w' hC; obtain ⟨z1, z2, z3⟩ := HCC.out w' hC; clear hC; first | (go_simp; done)
    simp only [Act.put, List.setIfInBounds_toArray, List.set_cons_zero, List.set_cons_succ]
    refine f_val (.pointer (some ⟨w1.heap.size, 2, none⟩)) (by rfl) ?_ ?_
    · intro w' hC; clear hC; first | (go_simp; done)
    simp only [Act.put, List.setIfInBounds_toArray, List.set_cons_zero, List.set_cons_succ]
    refine f_val (.string s) (by rfl) ?_ ?_
    · intro w' hC; obtain ⟨z1, z2, z3⟩ := HCC.out w' hC; clear hC; first | (go_simp; done)
    simp only [Act.put, List.setIfInBounds_toArray, List.set_cons_zero, List.set_cons_succ]
    refine f_val (.agg #[.pointer (some ⟨d, 0, none⟩), .int .i64 n, .string s]) (by rfl) ?_ ?_
    · intro w' hC; obtain ⟨z1, z2, z3⟩ := HCC.out w' hC; clear hC; first | (go_simp; done)
    simp only [Act.put, List.setIfInBounds_toArray, List.set_cons_zero, List.set_cons_succ]
    refine f_call 70 #[.agg #[.pointer (some ⟨d, 0, none⟩), .int .i64 n, .string s]] (.int .i64 sv) (by rfl) (by intro w' hC; clear hC; go_simp) ?_ ?_
    · intro w' hC hks; exact HSZ.out w' (Grows.trans HG1.out hC)
    simp only [Act.put, List.setIfInBounds_toArray, List.set_cons_zero, List.set_cons_succ]
    refine f_got (bs) (0) 60 #[.pointer (some ⟨d, 0, none⟩), .string s, .int .i64 0, .int .i64 sv] (by rfl) (by intro w' hC; clear hC; go_simp) ?_ ?_
    · intro w' hC hks; exact HRR.out w' (Grows.trans HG1.out hC)
    intro Q1 p1
    simp only [Act.put, List.setIfInBounds_toArray, List.set_cons_zero, List.set_cons_succ]
    refine f_gotv (bs) (0) Q1 p1 (by rfl) ?_ ?_
    · intro w' hC hks; refine ⟨?_, Known.get hks 0 rfl rfl⟩; clear hC hks; first | (go_simp; done)
    intro Q2 p2
    simp only [Act.put, List.setIfInBounds_toArray, List.set_cons_zero, List.set_cons_succ]
    refine f_slv (bs) Q2 p2 (by rfl) ?_ ?_
    · intro w' hC hks; refine ⟨?_, Known.get hks 0 rfl rfl⟩; clear hC hks; first | (go_simp; done)
    intro Q3 p3
    simp only [Act.put, List.setIfInBounds_toArray, List.set_cons_zero, List.set_cons_succ]
    refine f_val (.int .i64 0) (by rfl) ?_ ?_
    · intro w' hC; clear hC; first | (go_simp; done)
    simp only [Act.put, List.setIfInBounds_toArray, List.set_cons_zero, List.set_cons_succ]
    refine f_slv (bs) Q3 p3 (by rfl) ?_ ?_
    · intro w' hC hks; refine ⟨?_, Known.get hks 0 rfl rfl⟩; clear hC hks; first | (go_simp; done)
    intro QA qc
    simp only [Act.put, List.setIfInBounds_toArray, List.set_cons_zero, List.set_cons_succ]
    refine f_val (.int .i64 0) (by rfl) ?_ ?_
    · intro w' hC; clear hC; first | (go_simp; done)
    simp only [Act.put, List.setIfInBounds_toArray, List.set_cons_zero, List.set_cons_succ]
    refine wpF_end ?_
    intro w2 hC hks
    have HCw2 := Lib.hid hC
    have HSQ := Lib.hid (Known.at hks 0 rfl)
    clear hC hks
    gi_wp2_with (fail)
    refine ⟨trivial, (callsIn_wide.2 (all_in QA bs.length qc bs w2 HSQ.out HBL.out)).mono ?_⟩
    rintro e w3 ⟨IA, ic, ih, rfl, hown, hbod, hlow⟩
    have hit := items_own (c := ic) rfl hown hbod
    have HG3 := Lib.hid (Grows.trans HG1.out (Grows.trans HCw2.out hlow))
    have hC3 := Grows.trans HCw2.out hlow
    have HC3 := Lib.hid hC3
    have HIT := Lib.hid hit
    rw [HTS.out] at HIT hown hbod
    rw [HTS.out, HBD.out]
    obtain ⟨ig, icap, hiv, _, _⟩ := hown.form (by have := HLE.out; omega)
    injection hiv with hiv1 _ hiv2
    subst hiv1 hiv2
    have HTL := Lib.hid (items_tail hown hbod rfl HLE.out)
    have HSM := Lib.hid (show ∀ t ∈ ts.drop 1, t.2.2.length ≤ 1000000 from fun t ht => by
      have h1 := all_bodies _ bs 0 (Nat.le_refl _) t (by rw [HTS.out]; exact List.mem_of_mem_drop ht)
      have := HBL.out
      omega)
    have HFW := Lib.hid (show ts.length ≤ 200000 from by
      have h1 := (all_end _ bs 0 (Nat.le_refl _)).2.2.2.1
      rw [HTS.out] at h1
      have := HBL.out
      omega)
    have HBDB := Lib.hid (show bd ≤ 1000000 from by
      have h1 := (all_end _ bs 0 (Nat.le_refl _)).2.2.1
      rw [HBD.out] at h1
      have := HBL.out
      omega)
    have HDL := Lib.hid (show (ts.drop 1).length = ts.length - 1 from List.length_drop)
    clear hown hbod hlow hit hC3
    obtain ⟨N, hN⟩ : ∃ N, ts.length = N := ⟨_, rfl⟩
    rw [hN] at HIT HTL HFW HDL
    rw [hN]
    have hN1 : (1 : Int) ≤ (N : Int) := by have := HLE.out; omega
    have hN2 : ¬ ((N : Int) < 1) := by omega
    have hcap : (N : Int) ≤ (ic : Int) := by have := HIT.out.cap; omega
    have HNE := Lib.hid hN
    clear hN
    obtain ⟨z0, z1, z2⟩ := HCC.out (w3.alloc (.cells #[.int .i64 (bd : Nat)] 3)) (Grows.trans HC3.out (grows_alloc _ _))
    gi_wp2_with (fail)
    refine ⟨trivial, (callsIn_wide.2 (HBG.out _ (HIT.out.grow (grows_alloc w3 (.cells #[.int .i64 (bd : Nat)] 3))))).mono ?_⟩
    rintro e w4 ⟨rfl, hg4⟩
    rw [HBE.out]
    have hm4 := hg4.whole (Whole.made w3 3 #[.int .i64 (bd : Nat)])
    have HG4 := Lib.hid (And.intro hg4 hm4)
    clear hg4 hm4 z0 z1 z2
    by_cases hic : ic = 1
    · have HTB := Lib.hid (show Items w3 (some ⟨ig, 0, none⟩) (N - 1) 0 (ts.drop 1) from by
        have hN : N = 1 := by omega
        have hnil : ts.drop 1 = [] := List.eq_nil_of_length_eq_zero (by rw [HDL.out]; omega)
        rw [hnil, hN]
        exact ⟨rfl, Nat.le_refl _, fun e => (by cases e), [], rfl, Row.nil _ _ _, fun i h t hh => (by simp at hh)⟩)
      gi_wp2_with (fail)
      refine ⟨trivial, (callsIn_wide.2 (records_fn _ _ _ _)).mono ?_⟩
      rintro e V ⟨rfl, hV⟩
      obtain ⟨V1, hV1⟩ : ∃ V1, w4.alloc (.cells #[.slice none 0 0] 56) = V1 := ⟨_, rfl⟩
      rw [hV1] at hV
      rw [hV1]
      have s1 : V1.heap.size = w4.heap.size + 1 := by rw [← hV1, World.size_alloc]
      have g1 : Grows w4 V1 := hV1 ▸ grows_alloc _ _
      have s2 : V.heap.size = w4.heap.size + 1 + 1 := by rw [← hV, World.size_alloc, s1]
      have g2 : Grows V1 V := hV ▸ grows_alloc _ _
      have b1 : Boxed V w4.heap.size 56 (.slice none 0 0) := by
        have h1 : Boxed V1 w4.heap.size 56 (.slice none 0 0) := by rw [← hV1]; exact Boxed.new _ _ _
        exact g2.whole h1
      have b2 : Boxed V V1.heap.size 117 (.slice (some ⟨ig, 0, none⟩) (N - 1) 0) := by rw [← hV]; exact Boxed.new _ _ _
      have b3 : Boxed V w3.heap.size 3 (.int .i64 (bd : Nat)) := (Grows.trans g1 g2).whole HG4.out.2
      have g34 := Grows.trans (grows_alloc w3 (.cells #[.int .i64 (bd : Nat)] 3)) HG4.out.1
      have s3 : w3.heap.size < w4.heap.size := by have := HG4.out.1.size; rw [World.size_alloc] at this; omega
      have g3V := Grows.trans g34 (Grows.trans g1 g2)
      have hgives := records_gives 2 V1.heap.size (some ⟨ig, 0, none⟩) (N - 1) 0 (ts.drop 1) w3 V HTB.out (Lowly.grows g3V) b2 (by have := HFW.out; omega) HSM.out
      have h0 : SgHas w3.heap.size V.heap.size w4.heap.size w3.heap.size bd w3 [] V := ⟨⟨none, 0, b1, World.ownsRow_nil _ _ _ _⟩, (fun p hp => by cases hp), b3, g3V⟩
      have HGI := Lib.hid hgives
      have H0 := Lib.hid h0
      have HS := Lib.hid (And.intro s1 (And.intro s2 s3))
      rw [s1]
      rw [s1] at HGI
      clear hV hV1 g1 g2 b1 b2 b3 g34 g3V hgives h0 s1 s2 s3
      gi_wp2_with (fail)
      refine range_law (gf := 108) (lb := #[.pointer (some ⟨w4.heap.size + 1, 0, none⟩)]) rfl (enters_of Try.func108 (by kernel_rfl) rfl) HGI.out (fun _ => rfl)
        w3.heap.size (w4.heap.size + 1) (by have := HS.out; omega) (by rw [HS.out.2.1]; omega) (fun k hk => by rw [HS.out.2.1]; have := HS.out.2.2; omega) (SgHas w3.heap.size V.heap.size w4.heap.size w3.heap.size bd w3) (fun _ _ => False)
        (fun _ _ _ h hc => h.stay (by rw [HS.out.2.1]; have := HS.out.2.2; omega) (Nat.le_refl _) hc) (fun _ _ _ h _ => h) H0.out ?round ?done (fun _ _ _ _ _ h _ => h.elim)
      case round =>
        rintro l pre ⟨⟨t1, t2, tb⟩, ⟨LA, ln, lc⟩, ⟨BA, bn, bc⟩⟩ W0 W hsz hi hg hgd
        simp only [Nat.reduceSub]
        dsimp only [rxVals]
        gi_wp2_with (fail)
        refine ⟨grows_alloc _ _, fun Wb hcw => ?_⟩
        obtain ⟨hti, hro⟩ := hgd
        dsimp only at hti hro
        obtain ⟨ro, hroe⟩ : ∃ q, rcOf tb = q := ⟨_, rfl⟩
        rw [hroe] at hro hcw
        rw [hroe]
        have hpl : pre.length < 200000 := by
          have h1 := (List.getElem?_eq_some_iff.1 hti).1
          rw [HDL.out] at h1
          have := HFW.out
          omega
        have ga := grows_alloc W (.cells #[.int .i64 (t1 : Nat), .int .i64 (t2 : Nat), .int .i64 ro.kind, .string ⟨ro.key.toArray⟩, .int .i64 ro.id, .int .i64 ro.no, .int .i64 ro.size, .slice LA ln lc, .slice BA bn bc] 63)
        have hbox := hcw.held (World.alloc_heap_new W (.cells #[.int .i64 (t1 : Nat), .int .i64 (t2 : Nat), .int .i64 ro.kind, .string ⟨ro.key.toArray⟩, .int .i64 ro.id, .int .i64 ro.no, .int .i64 ro.size, .slice LA ln lc, .slice BA bn bc] 63))
        have hcW : Cellwise V.heap.size W0 Wb := (Cellwise.grows (Grows.trans hg ga)).trans hcw
        have hrb := (RcOwn.mk (hcw.owned (owned_grow hro.locs ga)) hro.len (hcw.owned (owned_grow hro.b ga))).from hsz
        obtain ⟨FA, fc, lb0, lown0⟩ := hi.list
        have HMI := Lib.hid (mine_row (n₀ := w3.heap.size) (m := w4.heap.size + 1) lown0)
        have lb := hcW.boxed lb0
        have lown := hcW.owned lown0
        have hi' := hi.stay (show w3.heap.size ≤ V.heap.size by rw [HS.out.2.1]; have := HS.out.2.2; omega) (Nat.le_refl _) hcW
        obtain ⟨-, lrec, lbad, llow⟩ := hi'
        have HVS := Lib.hid (show V.heap.size ≤ Wb.heap.size from Nat.le_trans hsz (Nat.le_trans hg.size (Nat.le_trans ga.size hcw.size)))
        have hkl := fnsR_len pre
        have hbl := badR_len pre
        have hfs := fnsR_snoc pre ((t1, t2, tb), (LA, ln, lc), (BA, bn, bc))
        have hbs := badR_snoc pre ((t1, t2, tb), (LA, ln, lc), (BA, bn, bc))
        dsimp only at hfs hbs
        rw [hroe] at hfs
        obtain ⟨k, hk⟩ : ∃ k, (fnsR pre).length = k := ⟨_, rfl⟩
        rw [hk] at lb lown hkl lb0 lown0 HMI
        obtain ⟨i0, hi0, hz0, hz1, hz2⟩ := info_parts infoFnd
        have HI := Lib.hid (And.intro hi0 (And.intro hz0 (And.intro hz1 hz2)))
        have HP := Lib.hid (And.intro lb (And.intro lown (And.intro lrec (And.intro lbad (And.intro llow hrb)))))
        have HK := Lib.hid (And.intro hk (And.intro hkl (And.intro hbl hpl)))
        have HSN := Lib.hid (And.intro hfs hbs)
        have c0 := cell_of_row Wb W.heap.size 0 _ _ _ hbox
        have c1 := cell_of_row Wb W.heap.size 1 _ _ _ hbox
        have c2 := cell_of_row Wb W.heap.size 2 _ _ _ hbox
        have c3 := cell_of_row Wb W.heap.size 3 _ _ _ hbox
        have c4 := cell_of_row Wb W.heap.size 4 _ _ _ hbox
        have c5 := cell_of_row Wb W.heap.size 5 _ _ _ hbox
        have c6 := cell_of_row Wb W.heap.size 6 _ _ _ hbox
        have c7 := cell_of_row Wb W.heap.size 7 _ _ _ hbox
        have c8 := cell_of_row Wb W.heap.size 8 _ _ _ hbox
        simp only [List.getElem?_toArray, List.getElem?_cons_zero, List.getElem?_cons_succ] at c0 c1 c2 c3 c4 c5 c6 c7 c8
        have q0 := lb.cell
        have q1 := lb.frozen
        have r0 := lbad.cell
        have r1 := lbad.frozen
        clear lb0 lown0 hti hro hroe ga hbox hcW hrb lb lown lrec lbad llow hkl hbl hfs hbs hk hi0 hz0 hz1 hz2 hi hg hcw hsz hpl
        obtain ⟨so, hso⟩ : ∃ q, (getR tb).isSome = q := ⟨_, rfl⟩
        rw [hso] at HSN
        rw [hso]
        clear hso
        cases so with
        | false =>
          have hwb : IntKind.i64.wrap (((bd + badR pre : Nat) : Int) + 1) = ((bd + badR pre : Nat) : Int) + 1 := IntWalk.i64_in _ (by have := HK.out.2.2; have := HBDB.out; omega)
          obtain ⟨bz, hbz⟩ : ∃ z, ((bd + badR pre : Nat) : Int) = z := ⟨_, rfl⟩
          have HBZ := Lib.hid hbz
          have hbx := HP.out.2.2.2.1
          rw [hbz] at hwb r0 hbx
          have HBX := Lib.hid hbx
          clear hbz hbx
          gi_wp2_with (fail)
          obtain ⟨lb, lown, lrec, _, llow, hrb⟩ := HP.out
          obtain ⟨hfs, hbs⟩ := HSN.out
          rw [if_neg (by decide), List.append_nil] at hfs
          rw [if_neg (by decide)] at hbs
          exact has_bad HS.out.2.2 HS.out.2.1 lb lown lrec HBX.out llow (Nat.le_refl _) HK.out.1 hfs hbs HBZ.out
        | true =>
          gi_wp2_with (first
            | (gi_at_builtin
               refine listIn_append_at rfl (.tmp 50) (.tmp 52) 56 rfl V.heap.size 63 i0 (.agg #[.int .i64 0, .int .i64 0, .int .i64 0, .string ⟨#[]⟩, .int .i64 0, .int .i64 0, .int .i64 0, .slice none 0 0, .slice none 0 0]) 9 112 Try.underlying56 HI.out.1 HI.out.2.1 HI.out.2.2.1 HI.out.2.2.2 rfl (by decide) (.slice FA k fc) k ((fnsR pre).flatMap fnE) rfl
                 (owned_grow HP.out.2.1 (grows_alloc _ _)) ⟨Wb.heap.size, 0, none⟩ 1 1 (fnE ((t1, t2, ro), (LA, ln, lc), (BA, bn, bc))) rfl rfl (fnE_at (Whole.made Wb _ _)) (fnE_one _) (by unfold maxLen; have := HK.out; omega) (by have := HK.out; omega) (by rw [World.size_alloc]; have := HVS.out; omega) ?_
               intro A1 cap1 w5 hown1 hgrow1 hdj
               have y4 : Boxed w5 w4.heap.size 56 (.slice FA k fc) := (hgrow1.block _ (by rw [World.size_alloc]; have := HP.out.1.lt; omega) (fun e => by have := (HMI.out _ e.symm).1; have := HS.out; omega)).trans ((grows_alloc _ _).block _ HP.out.1.lt |>.trans HP.out.1)
               have z4 := y4.cell
               have z5 := y4.frozen
               have HY4 := Lib.hid y4
               have HOWN1 := Lib.hid (And.intro hown1 (And.intro hgrow1 hdj))
               clear y4 hown1 hgrow1 hdj)
            | fail)
          obtain ⟨lb, lown, lrec, lbad, llow, hrb⟩ := HP.out
          obtain ⟨hfs, hbs⟩ := HSN.out
          rw [if_pos trivial] at hfs
          rw [if_pos trivial, Nat.add_zero] at hbs
          exact has_one HS.out.2.2 HS.out.2.1 HVS.out HMI.out lown lrec lbad llow (Nat.le_refl _) HK.out.1 hfs hbs hrb HY4.out HOWN1.out.1 HOWN1.out.2.1
      case done =>
        intro D xs W hD hS hi hK
        obtain ⟨FA, fc, lb, lown⟩ := hi.list
        have lbad := hi.bad
        obtain ⟨k, hk⟩ : ∃ k, (fnsR xs).length = k := ⟨_, rfl⟩
        obtain ⟨bz, hbz⟩ : ∃ z, ((bd + badR xs : Nat) : Int) = z := ⟨_, rfl⟩
        rw [hk] at lb lown
        rw [hbz] at lbad
        have HC := Lib.hid (show ∀ w', Grows W w' → w'.cell? { block := w4.heap.size, off := 0 } = some (.slice FA k fc) ∧ w'.cell? { block := w3.heap.size, off := 0 } = some (.int .i64 bz) from fun w' hC => ⟨(hC.whole (show Whole W _ _ #[_] from lb)).cell 0, (hC.whole (show Whole W _ _ #[_] from lbad)).cell 0⟩)
        have HH := Lib.hid (And.intro hi (And.intro hK (And.intro hD (And.intro hS (And.intro lown (And.intro hk hbz))))))
        clear lb lown lbad hi hK hD hS hk hbz
        gi_wp2_with (fail)
        refine wpIn_wide.2 ?_
        refine wp_region_facts (E := Grows) [valFact (.slice FA k fc), valFact (.int .i64 bz), valFact (.slice FA k fc), valFact (.int .i64 bz), valFact (.int .i64 0)] (by kernel_rfl) (by kernel_rfl) (fun _ _ _ => Grows.trans) (grows_drew _) ?_
        refine f_val (.slice FA k fc) (by rfl) ?_ ?_
        · intro w' hC; obtain ⟨z1, z2⟩ := HC.out w' hC; clear hC; first | (go_simp; done)
        simp only [Act.put, List.setIfInBounds_toArray, List.set_cons_zero, List.set_cons_succ]
        refine f_val (.int .i64 bz) (by rfl) ?_ ?_
        · intro w' hC; obtain ⟨z1, z2⟩ := HC.out w' hC; clear hC; first | (go_simp; done)
        simp only [Act.put, List.setIfInBounds_toArray, List.set_cons_zero, List.set_cons_succ]
        refine f_val (.slice FA k fc) (by rfl) ?_ ?_
        · intro w' hC; clear hC; first | (go_simp; done)
        simp only [Act.put, List.setIfInBounds_toArray, List.set_cons_zero, List.set_cons_succ]
        refine f_val (.int .i64 bz) (by rfl) ?_ ?_
        · intro w' hC; clear hC; first | (go_simp; done)
        simp only [Act.put, List.setIfInBounds_toArray, List.set_cons_zero, List.set_cons_succ]
        refine f_val (.int .i64 0) (by rfl) ?_ ?_
        · intro w' hC; clear hC; first | (go_simp; done)
        simp only [Act.put, List.setIfInBounds_toArray, List.set_cons_zero, List.set_cons_succ]
        intro w6 hC _
        have HCw6 := Lib.hid hC
        clear hC
        gi_wp2_with (fail)
        obtain ⟨hi, hK, hD, hS, lown, hk, hbz⟩ := HH.out
        have hK6 := (HCw6.out.block _ (Array.getElem?_eq_some_iff.1 hK).1).trans hK
        refine ⟨by simp, .inl ⟨_, _, rfl, run_takeDeferred hK6, ?_⟩⟩
        have hVV : w3.heap.size ≤ V.heap.size := by rw [HS.out.2.1]; have := HS.out.2.2; omega
        have hcw := (Cellwise.grows (B := V.heap.size) HCw6.out).trans (Cellwise.putObj hK6 rfl hD (.deferred none))
        have hif := hi.stay hVV (Nat.le_refl _) hcw
        have hof := hcw.owned lown
        refine ⟨.tuple #[.slice FA k fc, .int .i64 bz, .int .i64 0], by simp [results, Try.results34, go_sem], FA, fc, fnsR xs, ?_, FnOwn.low (b := V.heap.size) ⟨?_, ?_, hif.recs⟩ (Nat.le_trans HG3.out.size hVV), ?_, Grows.trans HG3.out hif.low⟩
        · rw [hk, ← hbz, badR_P, hS]
        · rfl
        · rw [hk]
          exact hof
        · rw [fnsR_P, hS]
    gi_wp2_with (fail)
    refine ⟨trivial, (callsIn_wide.2 (records_fn _ _ _ _)).mono ?_⟩
    rintro e V ⟨rfl, hV⟩
    obtain ⟨V1, hV1⟩ : ∃ V1, w4.alloc (.cells #[.slice none 0 0] 56) = V1 := ⟨_, rfl⟩
    rw [hV1] at hV
    rw [hV1]
    have s1 : V1.heap.size = w4.heap.size + 1 := by rw [← hV1, World.size_alloc]
    have g1 : Grows w4 V1 := hV1 ▸ grows_alloc _ _
    have s2 : V.heap.size = w4.heap.size + 1 + 1 := by rw [← hV, World.size_alloc, s1]
    have g2 : Grows V1 V := hV ▸ grows_alloc _ _
    have b1 : Boxed V w4.heap.size 56 (.slice none 0 0) := by
      have h1 : Boxed V1 w4.heap.size 56 (.slice none 0 0) := by rw [← hV1]; exact Boxed.new _ _ _
      exact g2.whole h1
    have b2 : Boxed V V1.heap.size 117 (.slice (some ⟨ig, 3, none⟩) (N - 1) (ic - 1)) := by rw [← hV]; exact Boxed.new _ _ _
    have b3 : Boxed V w3.heap.size 3 (.int .i64 (bd : Nat)) := (Grows.trans g1 g2).whole HG4.out.2
    have g34 := Grows.trans (grows_alloc w3 (.cells #[.int .i64 (bd : Nat)] 3)) HG4.out.1
    have s3 : w3.heap.size < w4.heap.size := by have := HG4.out.1.size; rw [World.size_alloc] at this; omega
    have g3V := Grows.trans g34 (Grows.trans g1 g2)
    have hgives := records_gives 2 V1.heap.size (some ⟨ig, 3, none⟩) (N - 1) (ic - 1) (ts.drop 1) w3 V HTL.out (Lowly.grows g3V) b2 (by have := HFW.out; omega) HSM.out
    have h0 : SgHas w3.heap.size V.heap.size w4.heap.size w3.heap.size bd w3 [] V := ⟨⟨none, 0, b1, World.ownsRow_nil _ _ _ _⟩, (fun p hp => by cases hp), b3, g3V⟩
    have HGI := Lib.hid hgives
    have H0 := Lib.hid h0
    have HS := Lib.hid (And.intro s1 (And.intro s2 s3))
    rw [s1]
    rw [s1] at HGI
    clear hV hV1 g1 g2 b1 b2 b3 g34 g3V hgives h0 s1 s2 s3
    gi_wp2_with (fail)
    refine range_law (gf := 108) (lb := #[.pointer (some ⟨w4.heap.size + 1, 0, none⟩)]) rfl (enters_of Try.func108 (by kernel_rfl) rfl) HGI.out (fun _ => rfl)
      w3.heap.size (w4.heap.size + 1) (by have := HS.out; omega) (by rw [HS.out.2.1]; omega) (fun k hk => by rw [HS.out.2.1]; have := HS.out.2.2; omega) (SgHas w3.heap.size V.heap.size w4.heap.size w3.heap.size bd w3) (fun _ _ => False)
      (fun _ _ _ h hc => h.stay (by rw [HS.out.2.1]; have := HS.out.2.2; omega) (Nat.le_refl _) hc) (fun _ _ _ h _ => h) H0.out ?round ?done (fun _ _ _ _ _ h _ => h.elim)
    case round =>
      rintro l pre ⟨⟨t1, t2, tb⟩, ⟨LA, ln, lc⟩, ⟨BA, bn, bc⟩⟩ W0 W hsz hi hg hgd
      simp only [Nat.reduceSub]
      dsimp only [rxVals]
      gi_wp2_with (fail)
      refine ⟨grows_alloc _ _, fun Wb hcw => ?_⟩
      obtain ⟨hti, hro⟩ := hgd
      dsimp only at hti hro
      obtain ⟨ro, hroe⟩ : ∃ q, rcOf tb = q := ⟨_, rfl⟩
      rw [hroe] at hro hcw
      rw [hroe]
      have hpl : pre.length < 200000 := by
        have h1 := (List.getElem?_eq_some_iff.1 hti).1
        rw [HDL.out] at h1
        have := HFW.out
        omega
      have ga := grows_alloc W (.cells #[.int .i64 (t1 : Nat), .int .i64 (t2 : Nat), .int .i64 ro.kind, .string ⟨ro.key.toArray⟩, .int .i64 ro.id, .int .i64 ro.no, .int .i64 ro.size, .slice LA ln lc, .slice BA bn bc] 63)
      have hbox := hcw.held (World.alloc_heap_new W (.cells #[.int .i64 (t1 : Nat), .int .i64 (t2 : Nat), .int .i64 ro.kind, .string ⟨ro.key.toArray⟩, .int .i64 ro.id, .int .i64 ro.no, .int .i64 ro.size, .slice LA ln lc, .slice BA bn bc] 63))
      have hcW : Cellwise V.heap.size W0 Wb := (Cellwise.grows (Grows.trans hg ga)).trans hcw
      have hrb := (RcOwn.mk (hcw.owned (owned_grow hro.locs ga)) hro.len (hcw.owned (owned_grow hro.b ga))).from hsz
      obtain ⟨FA, fc, lb0, lown0⟩ := hi.list
      have HMI := Lib.hid (mine_row (n₀ := w3.heap.size) (m := w4.heap.size + 1) lown0)
      have lb := hcW.boxed lb0
      have lown := hcW.owned lown0
      have hi' := hi.stay (show w3.heap.size ≤ V.heap.size by rw [HS.out.2.1]; have := HS.out.2.2; omega) (Nat.le_refl _) hcW
      obtain ⟨-, lrec, lbad, llow⟩ := hi'
      have HVS := Lib.hid (show V.heap.size ≤ Wb.heap.size from Nat.le_trans hsz (Nat.le_trans hg.size (Nat.le_trans ga.size hcw.size)))
      have hkl := fnsR_len pre
      have hbl := badR_len pre
      have hfs := fnsR_snoc pre ((t1, t2, tb), (LA, ln, lc), (BA, bn, bc))
      have hbs := badR_snoc pre ((t1, t2, tb), (LA, ln, lc), (BA, bn, bc))
      dsimp only at hfs hbs
      rw [hroe] at hfs
      obtain ⟨k, hk⟩ : ∃ k, (fnsR pre).length = k := ⟨_, rfl⟩
      rw [hk] at lb lown hkl lb0 lown0 HMI
      obtain ⟨i0, hi0, hz0, hz1, hz2⟩ := info_parts infoFnd
      have HI := Lib.hid (And.intro hi0 (And.intro hz0 (And.intro hz1 hz2)))
      have HP := Lib.hid (And.intro lb (And.intro lown (And.intro lrec (And.intro lbad (And.intro llow hrb)))))
      have HK := Lib.hid (And.intro hk (And.intro hkl (And.intro hbl hpl)))
      have HSN := Lib.hid (And.intro hfs hbs)
      have c0 := cell_of_row Wb W.heap.size 0 _ _ _ hbox
      have c1 := cell_of_row Wb W.heap.size 1 _ _ _ hbox
      have c2 := cell_of_row Wb W.heap.size 2 _ _ _ hbox
      have c3 := cell_of_row Wb W.heap.size 3 _ _ _ hbox
      have c4 := cell_of_row Wb W.heap.size 4 _ _ _ hbox
      have c5 := cell_of_row Wb W.heap.size 5 _ _ _ hbox
      have c6 := cell_of_row Wb W.heap.size 6 _ _ _ hbox
      have c7 := cell_of_row Wb W.heap.size 7 _ _ _ hbox
      have c8 := cell_of_row Wb W.heap.size 8 _ _ _ hbox
      simp only [List.getElem?_toArray, List.getElem?_cons_zero, List.getElem?_cons_succ] at c0 c1 c2 c3 c4 c5 c6 c7 c8
      have q0 := lb.cell
      have q1 := lb.frozen
      have r0 := lbad.cell
      have r1 := lbad.frozen
      clear lb0 lown0 hti hro hroe ga hbox hcW hrb lb lown lrec lbad llow hkl hbl hfs hbs hk hi0 hz0 hz1 hz2 hi hg hcw hsz hpl
      obtain ⟨so, hso⟩ : ∃ q, (getR tb).isSome = q := ⟨_, rfl⟩
      rw [hso] at HSN
      rw [hso]
      clear hso
      cases so with
      | false =>
        have hwb : IntKind.i64.wrap (((bd + badR pre : Nat) : Int) + 1) = ((bd + badR pre : Nat) : Int) + 1 := IntWalk.i64_in _ (by have := HK.out.2.2; have := HBDB.out; omega)
        obtain ⟨bz, hbz⟩ : ∃ z, ((bd + badR pre : Nat) : Int) = z := ⟨_, rfl⟩
        have HBZ := Lib.hid hbz
        have hbx := HP.out.2.2.2.1
        rw [hbz] at hwb r0 hbx
        have HBX := Lib.hid hbx
        clear hbz hbx
        gi_wp2_with (fail)
        obtain ⟨lb, lown, lrec, _, llow, hrb⟩ := HP.out
        obtain ⟨hfs, hbs⟩ := HSN.out
        rw [if_neg (by decide), List.append_nil] at hfs
        rw [if_neg (by decide)] at hbs
        exact has_bad HS.out.2.2 HS.out.2.1 lb lown lrec HBX.out llow (Nat.le_refl _) HK.out.1 hfs hbs HBZ.out
      | true =>
        gi_wp2_with (first
          | (gi_at_builtin
             refine listIn_append_at rfl (.tmp 50) (.tmp 52) 56 rfl V.heap.size 63 i0 (.agg #[.int .i64 0, .int .i64 0, .int .i64 0, .string ⟨#[]⟩, .int .i64 0, .int .i64 0, .int .i64 0, .slice none 0 0, .slice none 0 0]) 9 112 Try.underlying56 HI.out.1 HI.out.2.1 HI.out.2.2.1 HI.out.2.2.2 rfl (by decide) (.slice FA k fc) k ((fnsR pre).flatMap fnE) rfl
               (owned_grow HP.out.2.1 (grows_alloc _ _)) ⟨Wb.heap.size, 0, none⟩ 1 1 (fnE ((t1, t2, ro), (LA, ln, lc), (BA, bn, bc))) rfl rfl (fnE_at (Whole.made Wb _ _)) (fnE_one _) (by unfold maxLen; have := HK.out; omega) (by have := HK.out; omega) (by rw [World.size_alloc]; have := HVS.out; omega) ?_
             intro A1 cap1 w5 hown1 hgrow1 hdj
             have y4 : Boxed w5 w4.heap.size 56 (.slice FA k fc) := (hgrow1.block _ (by rw [World.size_alloc]; have := HP.out.1.lt; omega) (fun e => by have := (HMI.out _ e.symm).1; have := HS.out; omega)).trans ((grows_alloc _ _).block _ HP.out.1.lt |>.trans HP.out.1)
             have z4 := y4.cell
             have z5 := y4.frozen
             have HY4 := Lib.hid y4
             have HOWN1 := Lib.hid (And.intro hown1 (And.intro hgrow1 hdj))
             clear y4 hown1 hgrow1 hdj)
          | fail)
        obtain ⟨lb, lown, lrec, lbad, llow, hrb⟩ := HP.out
        obtain ⟨hfs, hbs⟩ := HSN.out
        rw [if_pos trivial] at hfs
        rw [if_pos trivial, Nat.add_zero] at hbs
        exact has_one HS.out.2.2 HS.out.2.1 HVS.out HMI.out lown lrec lbad llow (Nat.le_refl _) HK.out.1 hfs hbs hrb HY4.out HOWN1.out.1 HOWN1.out.2.1
    case done =>
      intro D xs W hD hS hi hK
      obtain ⟨FA, fc, lb, lown⟩ := hi.list
      have lbad := hi.bad
      obtain ⟨k, hk⟩ : ∃ k, (fnsR xs).length = k := ⟨_, rfl⟩
      obtain ⟨bz, hbz⟩ : ∃ z, ((bd + badR xs : Nat) : Int) = z := ⟨_, rfl⟩
      rw [hk] at lb lown
      rw [hbz] at lbad
      have HC := Lib.hid (show ∀ w', Grows W w' → w'.cell? { block := w4.heap.size, off := 0 } = some (.slice FA k fc) ∧ w'.cell? { block := w3.heap.size, off := 0 } = some (.int .i64 bz) from fun w' hC => ⟨(hC.whole (show Whole W _ _ #[_] from lb)).cell 0, (hC.whole (show Whole W _ _ #[_] from lbad)).cell 0⟩)
      have HH := Lib.hid (And.intro hi (And.intro hK (And.intro hD (And.intro hS (And.intro lown (And.intro hk hbz))))))
      clear lb lown lbad hi hK hD hS hk hbz
      gi_wp2_with (fail)
      refine wpIn_wide.2 ?_
      refine wp_region_facts (E := Grows) [valFact (.slice FA k fc), valFact (.int .i64 bz), valFact (.slice FA k fc), valFact (.int .i64 bz), valFact (.int .i64 0)] (by kernel_rfl) (by kernel_rfl) (fun _ _ _ => Grows.trans) (grows_drew _) ?_
      refine f_val (.slice FA k fc) (by rfl) ?_ ?_
      · intro w' hC; obtain ⟨z1, z2⟩ := HC.out w' hC; clear hC; first | (go_simp; done)
      simp only [Act.put, List.setIfInBounds_toArray, List.set_cons_zero, List.set_cons_succ]
      refine f_val (.int .i64 bz) (by rfl) ?_ ?_
      · intro w' hC; obtain ⟨z1, z2⟩ := HC.out w' hC; clear hC; first | (go_simp; done)
      simp only [Act.put, List.setIfInBounds_toArray, List.set_cons_zero, List.set_cons_succ]
      refine f_val (.slice FA k fc) (by rfl) ?_ ?_
      · intro w' hC; clear hC; first | (go_simp; done)
      simp only [Act.put, List.setIfInBounds_toArray, List.set_cons_zero, List.set_cons_succ]
      refine f_val (.int .i64 bz) (by rfl) ?_ ?_
      · intro w' hC; clear hC; first | (go_simp; done)
      simp only [Act.put, List.setIfInBounds_toArray, List.set_cons_zero, List.set_cons_succ]
      refine f_val (.int .i64 0) (by rfl) ?_ ?_
      · intro w' hC; clear hC; first | (go_simp; done)
      simp only [Act.put, List.setIfInBounds_toArray, List.set_cons_zero, List.set_cons_succ]
      intro w6 hC _
      have HCw6 := Lib.hid hC
      clear hC
      gi_wp2_with (fail)
      obtain ⟨hi, hK, hD, hS, lown, hk, hbz⟩ := HH.out
      have hK6 := (HCw6.out.block _ (Array.getElem?_eq_some_iff.1 hK).1).trans hK
      refine ⟨by simp, .inl ⟨_, _, rfl, run_takeDeferred hK6, ?_⟩⟩
      have hVV : w3.heap.size ≤ V.heap.size := by rw [HS.out.2.1]; have := HS.out.2.2; omega
      have hcw := (Cellwise.grows (B := V.heap.size) HCw6.out).trans (Cellwise.putObj hK6 rfl hD (.deferred none))
      have hif := hi.stay hVV (Nat.le_refl _) hcw
      have hof := hcw.owned lown
      refine ⟨.tuple #[.slice FA k fc, .int .i64 bz, .int .i64 0], by simp [results, Try.results34, go_sem], FA, fc, fnsR xs, ?_, FnOwn.low (b := V.heap.size) ⟨?_, ?_, hif.recs⟩ (Nat.le_trans HG3.out.size hVV), ?_, Grows.trans HG3.out hif.low⟩
      · rw [hk, ← hbz, badR_P, hS]
      · rfl
      · rw [hk]
        exact hof
      · rw [fnsR_P, hS]
end
end Go.Proofs.Ytdkpbphgaenlnaa


/-
  Segments: Make.
-/
namespace Go.Proofs.Ytdkpbphgaenlnaa
open Go.RowKit
set_option linter.unusedVariables false
set_option linter.unusedSimpArgs false
/-- I1, on a disk. -/
def makeP (m : Dk) (n : Int) : Dk × Int :=
  if (m.create (nmS n)).2 = 0 then
    (if ((m.create (nmS n)).1.append (nmS n) (putB (firstS n))).2 = 0 then (((m.create (nmS n)).1.append (nmS n) (putB (firstS n))).1, 0)
     else ((((m.create (nmS n)).1.append (nmS n) (putB (firstS n))).1.remove (nmS n)).1, ((m.create (nmS n)).1.append (nmS n) (putB (firstS n))).2))
  else m.create (nmS n)
theorem putB_small {b : List UInt8} : (putB b).length ≤ 8200 := by
  unfold putB
  split
  · rw [frameB_length]; omega
  · simp
theorem nmS_some {n : Int} (hn : 0 ≤ n ∧ n ≤ 99999999) : (⟨(nmS n).toArray⟩ : ByteArray).toList.isEmpty = false := by
  rw [ByteArray.toList_eq]
  unfold nmS ofP
  rw [if_neg (by omega), if_pos rfl]
  rfl
section
variable {B d K : Nat} {w0 w : World} {out : Nat → Prop} {m : Dk}
set_option maxRecDepth 100000 in
set_option maxHeartbeats 4000000 in
theorem segMake_any (w : World) (n : Int) (hn : 0 ≤ n ∧ n ≤ 99999999) (h : DkIn B w0 w d out m) (ok : DkOk K m) (hK : K ≤ 100000000) :
    Calls Try.prog 30 #[.pointer (some ⟨d, 0, none⟩), .int .i64 n] w fun e w' => e = .returned (.int .i64 (makeP m n).2) ∧ DkIn B w0 w' d out (makeP m n).1 ∧ Stays B out w w' := by
  have HO := Lib.hid (segOf_any w d n)
  have HFB := Lib.hid (fun w' => segFirst_any w' d n hn)
  have H := Lib.hid h
  have hsm := nmS_some hn
  have HOK := Lib.hid (And.intro ok hK)
  have HNS := Lib.hid (nmS_small n)
  have HFL := Lib.hid (show (firstS n).length = 5 from firstS_length n)
  unfold makeP
  unfold segV at HO HFB
  obtain ⟨s, hs⟩ : ∃ s : ByteArray, (⟨(nmS n).toArray⟩ : ByteArray) = s := ⟨_, rfl⟩
  rw [hs] at HO HFB hsm
  obtain ⟨v1, hv1⟩ : ∃ v, (m.create (nmS n)).2 = v := ⟨_, rfl⟩
  obtain ⟨m1, hm1⟩ : ∃ v, (m.create (nmS n)).1 = v := ⟨_, rfl⟩
  have hok1 := ok.create (nmS n)
  have HCR := Lib.hid (fun w' (hg : Grows w w') => create_in (nmS n) ((h.grow hg).beside #[.pointer (some ⟨d, 0, none⟩), .int .i64 n, .string s] 107) ok (by omega) (by have := nmS_small n; omega) hv1 hm1)
  rw [hs] at HCR
  rw [hv1, hm1]
  rw [hm1] at hok1
  obtain ⟨v2, hv2⟩ : ∃ v, (m1.append (nmS n) (putB (firstS n))).2 = v := ⟨_, rfl⟩
  obtain ⟨m2, hm2⟩ : ∃ v, (m1.append (nmS n) (putB (firstS n))).1 = v := ⟨_, rfl⟩
  have hok2 := hok1.append (nmS n) (putB (firstS n))
  rw [hv2, hm2]
  rw [hm2] at hok2
  have hpe : m.create (nmS n) = (m1, v1) := Prod.ext hm1 hv1
  rw [hpe]
  have HOK2 := Lib.hid (And.intro hok1 (hok2.mono (show K + 1 + (putB (firstS n)).length ≤ K + 9000 by have := putB_small (b := firstS n); omega)))
  have HV := Lib.hid (And.intro hv2 (And.intro hm2 hs))
  clear h ok hK hs hv1 hm1 hok1 hv2 hm2 hok2 hpe
  by_cases hz : v1 = 0
  rotate_left 1
  · have hzb : (v1 != 0) = true := by rw [bne_iff_ne]; exact hz
    rw [if_neg hz]
    clear hz
    go_enter Try.func30, Try.ntmps30
    go_wp2_with (fail)
    refine HO.out.mono ?_
    rintro e w1 ⟨rfl, hg1⟩
    have hwm := Whole.made w1 107 #[.pointer (some ⟨d, 0, none⟩), .int .i64 n, .string s]
    have c0 := hwm.cell 0
    have c2 := hwm.cell 2
    simp only [List.getElem?_toArray, List.getElem?_cons_zero, List.getElem?_cons_succ] at c0 c2
    have HG1 := Lib.hid hg1
    have HWM := Lib.hid hwm
    clear hg1 hwm
    go_wp2_with (fail)
    refine (HCR.out w1 HG1.out).mono ?_
    rintro e w3 ⟨rfl, hd3, hs3⟩
    have hw3 := hs3.whole HWM.out (.inr rfl)
    have HS3 := Lib.hid ((Stays.grows HG1.out).trans ((Stays.grows (grows_alloc w1 (.cells #[.pointer (some ⟨d, 0, none⟩), .int .i64 n, .string s] 107))).trans (hs3.less fun k hk => .inl hk)))
    have HD3 := Lib.hid hd3
    have HW3 := Lib.hid hw3
    have k0 := hw3.cell 0
    have k1 := hw3.cell 1
    have k2 := hw3.cell 2
    simp only [List.getElem?_toArray, List.getElem?_cons_zero, List.getElem?_cons_succ] at k0 k1 k2
    clear c0 c2 hd3 hs3 hw3
    go_wp2_with (fail)
    go_ret
    exact ⟨rfl, HD3.out.less fun k hk => .inl hk, HS3.out⟩
  subst hz
  rw [if_pos rfl]
  by_cases hz2 : v2 = 0
  · subst hz2
    rw [if_pos rfl]
    go_enter Try.func30, Try.ntmps30
    go_wp2_with (fail)
    refine HO.out.mono ?_
    rintro e w1 ⟨rfl, hg1⟩
    have hwm := Whole.made w1 107 #[.pointer (some ⟨d, 0, none⟩), .int .i64 n, .string s]
    have c0 := hwm.cell 0
    have c2 := hwm.cell 2
    simp only [List.getElem?_toArray, List.getElem?_cons_zero, List.getElem?_cons_succ] at c0 c2
    have HG1 := Lib.hid hg1
    have HWM := Lib.hid hwm
    clear hg1 hwm
    go_wp2_with (fail)
    refine (HCR.out w1 HG1.out).mono ?_
    rintro e w3 ⟨rfl, hd3, hs3⟩
    have hw3 := hs3.whole HWM.out (.inr rfl)
    have HS3 := Lib.hid ((Stays.grows HG1.out).trans ((Stays.grows (grows_alloc w1 (.cells #[.pointer (some ⟨d, 0, none⟩), .int .i64 n, .string s] 107))).trans (hs3.less fun k hk => .inl hk)))
    have HD3 := Lib.hid hd3
    have HW3 := Lib.hid hw3
    have k0 := hw3.cell 0
    have k1 := hw3.cell 1
    have k2 := hw3.cell 2
    simp only [List.getElem?_toArray, List.getElem?_cons_zero, List.getElem?_cons_succ] at k0 k1 k2
    clear c0 c2 hd3 hs3 hw3
    have HCC := Lib.hid (show ∀ w', Grows w3 w' → w'.cell? { block := w1.heap.size, off := 0 } = some (.pointer (some ⟨d, 0, none⟩)) ∧ w'.cell? { block := w1.heap.size, off := 1 } = some (.int .i64 n) ∧ w'.cell? { block := w1.heap.size, off := 2 } = some (.string s) from fun w' hC => by
      have hx := hC.whole HW3.out
      exact ⟨hx.cell 0, hx.cell 1, hx.cell 2⟩)
    go_wp2_with (fail)
    refine wp_region_facts_tail (E := Grows) 7 [valFact (.pointer (some ⟨w1.heap.size, 0, none⟩)), valFact (.pointer (some ⟨d, 0, none⟩)), valFact (.pointer (some ⟨w1.heap.size, 2, none⟩)), valFact (.string s), valFact (.agg #[.pointer (some ⟨d, 0, none⟩), .int .i64 n, .string s]), slFact (firstS n), ownFact w3 (putB (firstS n))] mixed (by kernel_rfl) (fun _ _ _ => Grows.trans) (grows_drew _) ?_
    simp only [List.take_succ_cons, List.take_zero, List.drop_succ_cons, List.drop_zero]
    refine f_val (.pointer (some ⟨w1.heap.size, 0, none⟩)) (by rfl) ?_ ?_
    · intro w' hC; clear hC; first | (go_simp; done)
    simp only [Act.put, List.setIfInBounds_toArray, List.set_cons_zero, List.set_cons_succ]
    refine f_val (.pointer (some ⟨d, 0, none⟩)) (by rfl) ?_ ?_
    · intro w' hC; obtain ⟨z1, z2, z3⟩ := HCC.out w' hC; clear hC; first | (go_simp; done)
    simp only [Act.put, List.setIfInBounds_toArray, List.set_cons_zero, List.set_cons_succ]
    refine f_val (.pointer (some ⟨w1.heap.size, 2, none⟩)) (by rfl) ?_ ?_
    · intro w' hC; clear hC; first | (go_simp; done)
    simp only [Act.put, List.setIfInBounds_toArray, List.set_cons_zero, List.set_cons_succ]
    refine f_val (.string s) (by rfl) ?_ ?_
    · intro w' hC; obtain ⟨z1, z2, z3⟩ := HCC.out w' hC; clear hC; first | (go_simp; done)
    simp only [Act.put, List.setIfInBounds_toArray, List.set_cons_zero, List.set_cons_succ]
    refine f_val (.agg #[.pointer (some ⟨d, 0, none⟩), .int .i64 n, .string s]) (by rfl) ?_ ?_
    · intro w' hC; obtain ⟨z1, z2, z3⟩ := HCC.out w' hC; clear hC; first | (go_simp; done)
    simp only [Act.put, List.setIfInBounds_toArray, List.set_cons_zero, List.set_cons_succ]
    refine f_new (firstS n) 66 #[.agg #[.pointer (some ⟨d, 0, none⟩), .int .i64 n, .string s]] (by rfl) (by intro w' hC; clear hC; go_simp) ?_ ?_
    · intro w' hC hks; exact (HFB.out w').mono fun e w'' ⟨g2, he, hlt, hsl, hgr⟩ => ⟨some ⟨g2, 0, none⟩, 5, 5, he, hsl, hgr⟩
    intro FA fc
    simp only [Act.put, List.setIfInBounds_toArray, List.set_cons_zero, List.set_cons_succ]
    refine f_own (putB (firstS n)) 41 #[.slice FA (firstS n).length fc] (by rfl) (by intro w' hC; clear hC; go_simp) ?_ ?_
    · intro w' hC hks; exact fput_own _ _ _ _ w' (Known.get hks 0 rfl rfl) (by rw [HFL.out]; decide)
    intro PA pc
    simp only [Act.put, List.setIfInBounds_toArray, List.set_cons_zero, List.set_cons_succ]
    refine wpF_end ?_
    intro w6 hC hks
    have HCw6 := Lib.hid hC
    have HK := Lib.hid (Known.at hks 0 rfl)
    clear hC hks
    have hd6 := HD3.out.news HCw6.out
    have hoff := own_off HK.out
    have HAP := Lib.hid (append_in (nmS n) hd6 HOK2.out.1 (by have := HOK.out.2; omega) (by have := HNS.out; omega) (Sl.owned HK.out) (fun ad e _ => .inr (.inr (hoff ad e))) (by have := putB_small (b := firstS n); omega) HV.out.1 HV.out.2.1)
    rw [HV.out.2.2] at HAP
    have hw6 := HCw6.out.whole HW3.out
    have HW6 := Lib.hid hw6
    clear hd6 hoff hw6 k0 k1 k2
    go_wp2_with (fail)
    refine HAP.out.mono ?_
    rintro e w7 ⟨rfl, hd7, hs7⟩
    have hw7 := hs7.whole HW6.out (.inl (.inr rfl))
    have HS7 := Lib.hid (HS3.out.trans ((Stays.grows HCw6.out).trans (hs7.less fun k hk => .inl (.inl hk))))
    have HD7 := Lib.hid (hd7.less (out' := fun k => out k ∨ k = w1.heap.size) fun k hk => .inl hk)
    have k0 := hw7.cell 0
    have k2 := hw7.cell 2
    simp only [List.getElem?_toArray, List.getElem?_cons_zero, List.getElem?_cons_succ] at k0 k2
    clear hd7 hs7 hw7
    go_wp2_with (fail)
    go_ret
    exact ⟨rfl, HD7.out.less fun k hk => .inl hk, HS7.out⟩
  have hzb : (v2 != 0) = true := by rw [bne_iff_ne]; exact hz2
  rw [if_neg hz2]
  clear hz2
  go_enter Try.func30, Try.ntmps30
  go_wp2_with (fail)
  refine HO.out.mono ?_
  rintro e w1 ⟨rfl, hg1⟩
  have hwm := Whole.made w1 107 #[.pointer (some ⟨d, 0, none⟩), .int .i64 n, .string s]
  have c0 := hwm.cell 0
  have c2 := hwm.cell 2
  simp only [List.getElem?_toArray, List.getElem?_cons_zero, List.getElem?_cons_succ] at c0 c2
  have HG1 := Lib.hid hg1
  have HWM := Lib.hid hwm
  clear hg1 hwm
  go_wp2_with (fail)
  refine (HCR.out w1 HG1.out).mono ?_
  rintro e w3 ⟨rfl, hd3, hs3⟩
  have hw3 := hs3.whole HWM.out (.inr rfl)
  have HS3 := Lib.hid ((Stays.grows HG1.out).trans ((Stays.grows (grows_alloc w1 (.cells #[.pointer (some ⟨d, 0, none⟩), .int .i64 n, .string s] 107))).trans (hs3.less fun k hk => .inl hk)))
  have HD3 := Lib.hid hd3
  have HW3 := Lib.hid hw3
  have k0 := hw3.cell 0
  have k1 := hw3.cell 1
  have k2 := hw3.cell 2
  simp only [List.getElem?_toArray, List.getElem?_cons_zero, List.getElem?_cons_succ] at k0 k1 k2
  clear c0 c2 hd3 hs3 hw3
  have HCC := Lib.hid (show ∀ w', Grows w3 w' → w'.cell? { block := w1.heap.size, off := 0 } = some (.pointer (some ⟨d, 0, none⟩)) ∧ w'.cell? { block := w1.heap.size, off := 1 } = some (.int .i64 n) ∧ w'.cell? { block := w1.heap.size, off := 2 } = some (.string s) from fun w' hC => by
    have hx := hC.whole HW3.out
    exact ⟨hx.cell 0, hx.cell 1, hx.cell 2⟩)
  go_wp2_with (fail)
  refine wp_region_facts_tail (E := Grows) 7 [valFact (.pointer (some ⟨w1.heap.size, 0, none⟩)), valFact (.pointer (some ⟨d, 0, none⟩)), valFact (.pointer (some ⟨w1.heap.size, 2, none⟩)), valFact (.string s), valFact (.agg #[.pointer (some ⟨d, 0, none⟩), .int .i64 n, .string s]), slFact (firstS n), ownFact w3 (putB (firstS n))] mixed (by kernel_rfl) (fun _ _ _ => Grows.trans) (grows_drew _) ?_
  simp only [List.take_succ_cons, List.take_zero, List.drop_succ_cons, List.drop_zero]
  refine f_val (.pointer (some ⟨w1.heap.size, 0, none⟩)) (by rfl) ?_ ?_
  · intro w' hC; clear hC; first | (go_simp; done)
  simp only [Act.put, List.setIfInBounds_toArray, List.set_cons_zero, List.set_cons_succ]
  refine f_val (.pointer (some ⟨d, 0, none⟩)) (by rfl) ?_ ?_
  · intro w' hC; obtain ⟨z1, z2, z3⟩ := HCC.out w' hC; clear hC; first | (go_simp; done)
  simp only [Act.put, List.setIfInBounds_toArray, List.set_cons_zero, List.set_cons_succ]
  refine f_val (.pointer (some ⟨w1.heap.size, 2, none⟩)) (by rfl) ?_ ?_
  · intro w' hC; clear hC; first | (go_simp; done)
  simp only [Act.put, List.setIfInBounds_toArray, List.set_cons_zero, List.set_cons_succ]
  refine f_val (.string s) (by rfl) ?_ ?_
  · intro w' hC; obtain ⟨z1, z2, z3⟩ := HCC.out w' hC; clear hC; first | (go_simp; done)
  simp only [Act.put, List.setIfInBounds_toArray, List.set_cons_zero, List.set_cons_succ]
  refine f_val (.agg #[.pointer (some ⟨d, 0, none⟩), .int .i64 n, .string s]) (by rfl) ?_ ?_
  · intro w' hC; obtain ⟨z1, z2, z3⟩ := HCC.out w' hC; clear hC; first | (go_simp; done)
  simp only [Act.put, List.setIfInBounds_toArray, List.set_cons_zero, List.set_cons_succ]
  refine f_new (firstS n) 66 #[.agg #[.pointer (some ⟨d, 0, none⟩), .int .i64 n, .string s]] (by rfl) (by intro w' hC; clear hC; go_simp) ?_ ?_
  · intro w' hC hks; exact (HFB.out w').mono fun e w'' ⟨g2, he, hlt, hsl, hgr⟩ => ⟨some ⟨g2, 0, none⟩, 5, 5, he, hsl, hgr⟩
  intro FA fc
  simp only [Act.put, List.setIfInBounds_toArray, List.set_cons_zero, List.set_cons_succ]
  refine f_own (putB (firstS n)) 41 #[.slice FA (firstS n).length fc] (by rfl) (by intro w' hC; clear hC; go_simp) ?_ ?_
  · intro w' hC hks; exact fput_own _ _ _ _ w' (Known.get hks 0 rfl rfl) (by rw [HFL.out]; decide)
  intro PA pc
  simp only [Act.put, List.setIfInBounds_toArray, List.set_cons_zero, List.set_cons_succ]
  refine wpF_end ?_
  intro w6 hC hks
  have HCw6 := Lib.hid hC
  have HK := Lib.hid (Known.at hks 0 rfl)
  clear hC hks
  have hd6 := HD3.out.news HCw6.out
  have hoff := own_off HK.out
  have HAP := Lib.hid (append_in (nmS n) hd6 HOK2.out.1 (by have := HOK.out.2; omega) (by have := HNS.out; omega) (Sl.owned HK.out) (fun ad e _ => .inr (.inr (hoff ad e))) (by have := putB_small (b := firstS n); omega) HV.out.1 HV.out.2.1)
  rw [HV.out.2.2] at HAP
  have hw6 := HCw6.out.whole HW3.out
  have HW6 := Lib.hid hw6
  clear hd6 hoff hw6 k0 k1 k2
  go_wp2_with (fail)
  refine HAP.out.mono ?_
  rintro e w7 ⟨rfl, hd7, hs7⟩
  have hw7 := hs7.whole HW6.out (.inl (.inr rfl))
  have HS7 := Lib.hid (HS3.out.trans ((Stays.grows HCw6.out).trans (hs7.less fun k hk => .inl (.inl hk))))
  have HD7 := Lib.hid (hd7.less (out' := fun k => out k ∨ k = w1.heap.size) fun k hk => .inl hk)
  have k0 := hw7.cell 0
  have k2 := hw7.cell 2
  simp only [List.getElem?_toArray, List.getElem?_cons_zero, List.getElem?_cons_succ] at k0 k2
  clear hd7 hs7 hw7
  have HRM := Lib.hid (remove_in (nmS n) HD7.out HOK2.out.2 (by have := HOK.out.2; omega) (by have := HNS.out; omega) rfl rfl)
  rw [HV.out.2.2] at HRM
  go_wp2_with (fail)
  refine HRM.out.mono ?_
  rintro e w8 ⟨rfl, hd8, hs8⟩
  have HS8 := Lib.hid (HS7.out.trans (hs8.less fun k hk => .inl hk))
  have HD8 := Lib.hid (hd8.less (out' := out) fun k hk => .inl hk)
  clear hd8 hs8
  go_wp2_with (fail)
  go_ret
  exact ⟨rfl, HD8.out, HS8.out⟩
end
end Go.Proofs.Ytdkpbphgaenlnaa

/-
  Segments: Add.
-/
namespace Go.Proofs.Ytdkpbphgaenlnaa
open Go.RowKit
set_option linter.unusedVariables false
set_option linter.unusedSimpArgs false
/-- A record's frame. -/
def frS (r : Rc) : List UInt8 := putB (putR r)
/-- I2, on a disk. -/
def addP (m : Dk) (n : Int) (r : Rc) : Dk × (Int × Int × Int) :=
  if RightR r then (if (m.append (nmS n) (frS r)).2 = 0 then ((m.append (nmS n) (frS r)).1, ((m.size (nmS n)).1, ((frS r).length : Nat), 0)) else ((m.append (nmS n) (frS r)).1, (0, 0, (m.append (nmS n) (frS r)).2)))
  else (m, (0, 0, 1))
section
variable {B d K : Nat} {w0 w : World} {out : Nat → Prop} {m : Dk}
set_option maxRecDepth 100000 in
set_option maxHeartbeats 4000000 in
theorem segAdd_any (w : World) (n : Int) (r : Rc) {LA : Option Addr} {ln lc : Nat} {BA : Option Addr} {bn bc : Nat} (hin : RcIn w LA ln lc BA bn bc r) (h : DkIn B w0 w d out m) (ok : DkOk K m) (hK : K ≤ 100000000) :
    Calls Try.prog 31 #[.pointer (some ⟨d, 0, none⟩), .int .i64 n, .agg #[.int .i64 r.kind, .string ⟨r.key.toArray⟩, .int .i64 r.id, .int .i64 r.no, .int .i64 r.size, .slice LA ln lc, .slice BA bn bc]] w fun e w' => e = .returned (.tuple #[.int .i64 (addP m n r).2.1, .int .i64 (addP m n r).2.2.1, .int .i64 (addP m n r).2.2.2]) ∧ DkIn B w0 w' d out (addP m n r).1 ∧ Stays B out w w' := by
  have HO := Lib.hid (fun w' => segOf_any w' d n)
  have H := Lib.hid h
  have HOK := Lib.hid (And.intro ok hK)
  have HNS := Lib.hid (nmS_small n)
  have hri := fun w' (hg : Grows w w') => rcright_any r LA ln lc BA bn bc w' (hin.grow hg)
  have hpu := fun w' (hg : Grows w w') => put_own r LA ln lc BA bn bc w' (hin.grow hg)
  have hbody : (putR r).length ≤ 8192 := put_small r
  have HPL := Lib.hid hbody
  obtain ⟨pr, hpr⟩ : ∃ p, putR r = p := ⟨_, rfl⟩
  rw [hpr] at HPL hbody
  unfold addP frS
  rw [hpr]
  simp only [hpr] at hpu
  obtain ⟨⟨sv, sb⟩, hsz⟩ : ∃ q, m.size (nmS n) = q := ⟨_, rfl⟩
  have HSZ := Lib.hid (fun w' (hg : Grows w w') => segSize_any w' n (h.grow hg) hsz)
  rw [hsz]
  unfold segV at HO HSZ
  obtain ⟨v2, hv2⟩ : ∃ v, (m.append (nmS n) (putB pr)).2 = v := ⟨_, rfl⟩
  obtain ⟨m2, hm2⟩ : ∃ v, (m.append (nmS n) (putB pr)).1 = v := ⟨_, rfl⟩
  rw [hv2, hm2]
  obtain ⟨s, hs⟩ : ∃ s : ByteArray, (⟨(nmS n).toArray⟩ : ByteArray) = s := ⟨_, rfl⟩
  rw [hs] at HO HSZ
  have HV := Lib.hid (And.intro hv2 (And.intro hm2 hs))
  have hpb := putB_small (b := pr)
  obtain ⟨fl, hfl⟩ : ∃ k, (putB pr).length = k := ⟨_, rfl⟩
  rw [hfl] at hpb ⊢
  have HFL := Lib.hid hfl
  obtain ⟨kd, ks0, id, no, sz, ls, rb⟩ := r
  dsimp only at hri hpu ⊢
  obtain ⟨ks, hks⟩ : ∃ s : ByteArray, (⟨ks0.toArray⟩ : ByteArray) = s := ⟨_, rfl⟩
  rw [hks] at hri hpu ⊢
  obtain ⟨rr, hrr⟩ : ∃ q, decide (RightR ⟨kd, ks0, id, no, sz, ls, rb⟩) = q := ⟨_, rfl⟩
  simp only [hrr] at hri
  have HRI := Lib.hid hri
  have HPU := Lib.hid hpu
  clear h ok hK hri hpu hsz hs hv2 hm2 hfl hks hpr hin
  cases rr with
  | false =>
    rw [if_neg (of_decide_eq_false hrr)]
    clear hrr
    go_enter Try.func31, Try.ntmps31
    have hwm := Whole.made w 59 #[.int .i64 kd, .string ks, .int .i64 id, .int .i64 no, .int .i64 sz, .slice LA ln lc, .slice BA bn bc]
    have c0 := hwm.cell 0
    have c1 := hwm.cell 1
    have c2 := hwm.cell 2
    have c3 := hwm.cell 3
    have c4 := hwm.cell 4
    have c5 := hwm.cell 5
    have c6 := hwm.cell 6
    simp only [List.getElem?_toArray, List.getElem?_cons_zero, List.getElem?_cons_succ] at c0 c1 c2 c3 c4 c5 c6
    have HWM := Lib.hid hwm
    clear hwm
    go_wp2_with (fail)
    refine (HRI.out _ (grows_alloc w _)).mono ?_
    rintro e w1 ⟨rfl, hg1⟩
    have HG1 := Lib.hid (show Grows w w1 from Grows.trans (grows_alloc w (.cells #[.int .i64 kd, .string ks, .int .i64 id, .int .i64 no, .int .i64 sz, .slice LA ln lc, .slice BA bn bc] 59)) hg1)
    have HW1 := Lib.hid (Grows.whole hg1 HWM.out)
    clear hg1 c0 c1 c2 c3 c4 c5 c6
    go_wp2_with (fail)
    go_ret3
    exact ⟨rfl, H.out.grow HG1.out, Stays.grows HG1.out⟩
  | true =>
    rw [if_pos (of_decide_eq_true hrr)]
    clear hrr
    by_cases hz : v2 = 0
    · subst hz
      rw [if_pos rfl]
      go_enter Try.func31, Try.ntmps31
      have hwm := Whole.made w 59 #[.int .i64 kd, .string ks, .int .i64 id, .int .i64 no, .int .i64 sz, .slice LA ln lc, .slice BA bn bc]
      have c0 := hwm.cell 0
      have c1 := hwm.cell 1
      have c2 := hwm.cell 2
      have c3 := hwm.cell 3
      have c4 := hwm.cell 4
      have c5 := hwm.cell 5
      have c6 := hwm.cell 6
      simp only [List.getElem?_toArray, List.getElem?_cons_zero, List.getElem?_cons_succ] at c0 c1 c2 c3 c4 c5 c6
      have HWM := Lib.hid hwm
      clear hwm
      go_wp2_with (fail)
      refine (HRI.out _ (grows_alloc w _)).mono ?_
      rintro e w1 ⟨rfl, hg1⟩
      have HG1 := Lib.hid (show Grows w w1 from Grows.trans (grows_alloc w (.cells #[.int .i64 kd, .string ks, .int .i64 id, .int .i64 no, .int .i64 sz, .slice LA ln lc, .slice BA bn bc] 59)) hg1)
      have HW1 := Lib.hid (Grows.whole hg1 HWM.out)
      clear hg1 c0 c1 c2 c3 c4 c5 c6
      go_wp2_with (fail)
      refine (HO.out w1).mono ?_
      rintro e w2 ⟨rfl, hg2⟩
      have HG2 := Lib.hid (Grows.trans HG1.out hg2)
      have HW2 := Lib.hid (hg2.whole HW1.out)
      clear hg2
      have hsm := Whole.made w2 107 #[.pointer (some ⟨d, 0, none⟩), .int .i64 n, .string s]
      have HSM := Lib.hid hsm
      have HG3 := Lib.hid (grows_alloc w2 (.cells #[.pointer (some ⟨d, 0, none⟩), .int .i64 n, .string s] 107))
      clear hsm
      go_wp2_with (fail)
      generalize hw3 : w2.alloc (.cells #[.pointer (some ⟨d, 0, none⟩), .int .i64 n, .string s] 107) = w3 at *
      clear hw3
      have HW3 := Lib.hid (HG3.out.whole HW2.out)
      have HGT := Lib.hid (Grows.trans HG2.out HG3.out)
      have HC := Lib.hid (show ∀ w', Grows w3 w' → (w'.cell? { block := w.heap.size, off := 0 } = some (.int .i64 kd) ∧ w'.cell? { block := w.heap.size, off := 1 } = some (.string ks) ∧ w'.cell? { block := w.heap.size, off := 2 } = some (.int .i64 id) ∧ w'.cell? { block := w.heap.size, off := 3 } = some (.int .i64 no) ∧ w'.cell? { block := w.heap.size, off := 4 } = some (.int .i64 sz) ∧ w'.cell? { block := w.heap.size, off := 5 } = some (.slice LA ln lc) ∧ w'.cell? { block := w.heap.size, off := 6 } = some (.slice BA bn bc)) ∧
          (w'.cell? { block := w2.heap.size, off := 0 } = some (.pointer (some ⟨d, 0, none⟩)) ∧ w'.cell? { block := w2.heap.size, off := 1 } = some (.int .i64 n) ∧ w'.cell? { block := w2.heap.size, off := 2 } = some (.string s)) from fun w' hC => by
        have hx := hC.whole HW3.out
        have hy := hC.whole HSM.out
        exact ⟨⟨hx.cell 0, hx.cell 1, hx.cell 2, hx.cell 3, hx.cell 4, hx.cell 5, hx.cell 6⟩, hy.cell 0, hy.cell 1, hy.cell 2⟩)
      refine wp_region_facts_tail (E := Grows) 5 [valFact (.agg #[.int .i64 kd, .string ks, .int .i64 id, .int .i64 no, .int .i64 sz, .slice LA ln lc, .slice BA bn bc]), ownFact w3 (pr), ownFact w3 (putB pr), valFact (.agg #[.pointer (some ⟨d, 0, none⟩), .int .i64 n, .string s]), valFact (.int .i64 sv)] mixed (by kernel_rfl) (fun _ _ _ => Grows.trans) (grows_drew _) ?_
      simp only [List.take_succ_cons, List.take_zero, List.drop_succ_cons, List.drop_zero]
      refine f_val (.agg #[.int .i64 kd, .string ks, .int .i64 id, .int .i64 no, .int .i64 sz, .slice LA ln lc, .slice BA bn bc]) (by rfl) ?_ ?_
      · intro w' hC; obtain ⟨⟨z0, z1, z2, z3, z4, z5, z6⟩, y0, y1, y2⟩ := HC.out w' hC; clear hC; first | (go_simp; done)
      simp only [Act.put, List.setIfInBounds_toArray, List.set_cons_zero, List.set_cons_succ]
      refine f_own (pr) 69 #[.agg #[.int .i64 kd, .string ks, .int .i64 id, .int .i64 no, .int .i64 sz, .slice LA ln lc, .slice BA bn bc]] (by rfl) (by intro w' hC; clear hC; go_simp) ?_ ?_
      · intro w' hC hks; exact HPU.out w' (Grows.trans HGT.out hC)
      intro RA rc
      simp only [Act.put, List.setIfInBounds_toArray, List.set_cons_zero, List.set_cons_succ]
      refine f_own (putB pr) 41 #[.slice RA pr.length rc] (by rfl) (by intro w' hC; clear hC; go_simp) ?_ ?_
      · intro w' hC hks; exact fput_own _ _ _ _ w' (Sl.owned (Known.get hks 0 rfl rfl)) (by have := HPL.out; unfold maxLen; omega)
      intro PA pc
      simp only [Act.put, List.setIfInBounds_toArray, List.set_cons_zero, List.set_cons_succ]
      refine f_val (.agg #[.pointer (some ⟨d, 0, none⟩), .int .i64 n, .string s]) (by rfl) ?_ ?_
      · intro w' hC; obtain ⟨⟨z0, z1, z2, z3, z4, z5, z6⟩, y0, y1, y2⟩ := HC.out w' hC; clear hC; first | (go_simp; done)
      simp only [Act.put, List.setIfInBounds_toArray, List.set_cons_zero, List.set_cons_succ]
      refine f_call 70 #[.agg #[.pointer (some ⟨d, 0, none⟩), .int .i64 n, .string s]] (.int .i64 sv) (by rfl) (by intro w' hC; clear hC; go_simp) ?_ ?_
      · intro w' hC hks; exact HSZ.out w' (Grows.trans HGT.out hC)
      simp only [Act.put, List.setIfInBounds_toArray, List.set_cons_zero, List.set_cons_succ]
      refine wpF_end ?_
      intro w6 hC hks
      have HCw6 := Lib.hid hC
      have HK := Lib.hid (Known.at hks 0 rfl)
      clear hC hks
      have hd6 := (H.out.grow HGT.out).news HCw6.out
      have hsl := HK.out
      rw [HFL.out] at hsl
      have hoff := own_off hsl
      have HAP := Lib.hid (append_in (nmS n) hd6 HOK.out.1 (by have := HOK.out.2; omega) (by have := HNS.out; omega) (Sl.owned hsl) (fun ad e _ => .inr (.inr (hoff ad e))) (by omega) HV.out.1 HV.out.2.1)
      rw [HV.out.2.2] at HAP
      rw [HFL.out]
      obtain ⟨⟨z0, z1, z2, z3, z4, z5, z6⟩, y0, y1, y2⟩ := HC.out w6 HCw6.out
      clear hd6 hoff hsl z0 z1 z2 z3 z4 z5 z6 y1
      go_wp2_with (fail)
      refine HAP.out.mono ?_
      rintro e w7 ⟨rfl, hd7, hs7⟩
      have HS7 := Lib.hid ((Stays.grows HGT.out).trans ((Stays.grows HCw6.out).trans (hs7.less fun k hk => .inl hk)))
      have HD7 := Lib.hid (hd7.less (out' := out) fun k hk => .inl hk)
      clear hd7 hs7
      go_wp2_with (fail)
      go_ret3
      exact ⟨rfl, HD7.out, HS7.out⟩
    · have hzb : (v2 != 0) = true := by rw [bne_iff_ne]; exact hz
      rw [if_neg hz]
      clear hz
      go_enter Try.func31, Try.ntmps31
      have hwm := Whole.made w 59 #[.int .i64 kd, .string ks, .int .i64 id, .int .i64 no, .int .i64 sz, .slice LA ln lc, .slice BA bn bc]
      have c0 := hwm.cell 0
      have c1 := hwm.cell 1
      have c2 := hwm.cell 2
      have c3 := hwm.cell 3
      have c4 := hwm.cell 4
      have c5 := hwm.cell 5
      have c6 := hwm.cell 6
      simp only [List.getElem?_toArray, List.getElem?_cons_zero, List.getElem?_cons_succ] at c0 c1 c2 c3 c4 c5 c6
      have HWM := Lib.hid hwm
      clear hwm
      go_wp2_with (fail)
      refine (HRI.out _ (grows_alloc w _)).mono ?_
      rintro e w1 ⟨rfl, hg1⟩
      have HG1 := Lib.hid (show Grows w w1 from Grows.trans (grows_alloc w (.cells #[.int .i64 kd, .string ks, .int .i64 id, .int .i64 no, .int .i64 sz, .slice LA ln lc, .slice BA bn bc] 59)) hg1)
      have HW1 := Lib.hid (Grows.whole hg1 HWM.out)
      clear hg1 c0 c1 c2 c3 c4 c5 c6
      go_wp2_with (fail)
      refine (HO.out w1).mono ?_
      rintro e w2 ⟨rfl, hg2⟩
      have HG2 := Lib.hid (Grows.trans HG1.out hg2)
      have HW2 := Lib.hid (hg2.whole HW1.out)
      clear hg2
      have hsm := Whole.made w2 107 #[.pointer (some ⟨d, 0, none⟩), .int .i64 n, .string s]
      have HSM := Lib.hid hsm
      have HG3 := Lib.hid (grows_alloc w2 (.cells #[.pointer (some ⟨d, 0, none⟩), .int .i64 n, .string s] 107))
      clear hsm
      go_wp2_with (fail)
      generalize hw3 : w2.alloc (.cells #[.pointer (some ⟨d, 0, none⟩), .int .i64 n, .string s] 107) = w3 at *
      clear hw3
      have HW3 := Lib.hid (HG3.out.whole HW2.out)
      have HGT := Lib.hid (Grows.trans HG2.out HG3.out)
      have HC := Lib.hid (show ∀ w', Grows w3 w' → (w'.cell? { block := w.heap.size, off := 0 } = some (.int .i64 kd) ∧ w'.cell? { block := w.heap.size, off := 1 } = some (.string ks) ∧ w'.cell? { block := w.heap.size, off := 2 } = some (.int .i64 id) ∧ w'.cell? { block := w.heap.size, off := 3 } = some (.int .i64 no) ∧ w'.cell? { block := w.heap.size, off := 4 } = some (.int .i64 sz) ∧ w'.cell? { block := w.heap.size, off := 5 } = some (.slice LA ln lc) ∧ w'.cell? { block := w.heap.size, off := 6 } = some (.slice BA bn bc)) ∧
          (w'.cell? { block := w2.heap.size, off := 0 } = some (.pointer (some ⟨d, 0, none⟩)) ∧ w'.cell? { block := w2.heap.size, off := 1 } = some (.int .i64 n) ∧ w'.cell? { block := w2.heap.size, off := 2 } = some (.string s)) from fun w' hC => by
        have hx := hC.whole HW3.out
        have hy := hC.whole HSM.out
        exact ⟨⟨hx.cell 0, hx.cell 1, hx.cell 2, hx.cell 3, hx.cell 4, hx.cell 5, hx.cell 6⟩, hy.cell 0, hy.cell 1, hy.cell 2⟩)
      refine wp_region_facts_tail (E := Grows) 5 [valFact (.agg #[.int .i64 kd, .string ks, .int .i64 id, .int .i64 no, .int .i64 sz, .slice LA ln lc, .slice BA bn bc]), ownFact w3 (pr), ownFact w3 (putB pr), valFact (.agg #[.pointer (some ⟨d, 0, none⟩), .int .i64 n, .string s]), valFact (.int .i64 sv)] mixed (by kernel_rfl) (fun _ _ _ => Grows.trans) (grows_drew _) ?_
      simp only [List.take_succ_cons, List.take_zero, List.drop_succ_cons, List.drop_zero]
      refine f_val (.agg #[.int .i64 kd, .string ks, .int .i64 id, .int .i64 no, .int .i64 sz, .slice LA ln lc, .slice BA bn bc]) (by rfl) ?_ ?_
      · intro w' hC; obtain ⟨⟨z0, z1, z2, z3, z4, z5, z6⟩, y0, y1, y2⟩ := HC.out w' hC; clear hC; first | (go_simp; done)
      simp only [Act.put, List.setIfInBounds_toArray, List.set_cons_zero, List.set_cons_succ]
      refine f_own (pr) 69 #[.agg #[.int .i64 kd, .string ks, .int .i64 id, .int .i64 no, .int .i64 sz, .slice LA ln lc, .slice BA bn bc]] (by rfl) (by intro w' hC; clear hC; go_simp) ?_ ?_
      · intro w' hC hks; exact HPU.out w' (Grows.trans HGT.out hC)
      intro RA rc
      simp only [Act.put, List.setIfInBounds_toArray, List.set_cons_zero, List.set_cons_succ]
      refine f_own (putB pr) 41 #[.slice RA pr.length rc] (by rfl) (by intro w' hC; clear hC; go_simp) ?_ ?_
      · intro w' hC hks; exact fput_own _ _ _ _ w' (Sl.owned (Known.get hks 0 rfl rfl)) (by have := HPL.out; unfold maxLen; omega)
      intro PA pc
      simp only [Act.put, List.setIfInBounds_toArray, List.set_cons_zero, List.set_cons_succ]
      refine f_val (.agg #[.pointer (some ⟨d, 0, none⟩), .int .i64 n, .string s]) (by rfl) ?_ ?_
      · intro w' hC; obtain ⟨⟨z0, z1, z2, z3, z4, z5, z6⟩, y0, y1, y2⟩ := HC.out w' hC; clear hC; first | (go_simp; done)
      simp only [Act.put, List.setIfInBounds_toArray, List.set_cons_zero, List.set_cons_succ]
      refine f_call 70 #[.agg #[.pointer (some ⟨d, 0, none⟩), .int .i64 n, .string s]] (.int .i64 sv) (by rfl) (by intro w' hC; clear hC; go_simp) ?_ ?_
      · intro w' hC hks; exact HSZ.out w' (Grows.trans HGT.out hC)
      simp only [Act.put, List.setIfInBounds_toArray, List.set_cons_zero, List.set_cons_succ]
      refine wpF_end ?_
      intro w6 hC hks
      have HCw6 := Lib.hid hC
      have HK := Lib.hid (Known.at hks 0 rfl)
      clear hC hks
      have hd6 := (H.out.grow HGT.out).news HCw6.out
      have hsl := HK.out
      rw [HFL.out] at hsl
      have hoff := own_off hsl
      have HAP := Lib.hid (append_in (nmS n) hd6 HOK.out.1 (by have := HOK.out.2; omega) (by have := HNS.out; omega) (Sl.owned hsl) (fun ad e _ => .inr (.inr (hoff ad e))) (by omega) HV.out.1 HV.out.2.1)
      rw [HV.out.2.2] at HAP
      rw [HFL.out]
      obtain ⟨⟨z0, z1, z2, z3, z4, z5, z6⟩, y0, y1, y2⟩ := HC.out w6 HCw6.out
      clear hd6 hoff hsl z0 z1 z2 z3 z4 z5 z6 y1
      go_wp2_with (fail)
      refine HAP.out.mono ?_
      rintro e w7 ⟨rfl, hd7, hs7⟩
      have HS7 := Lib.hid ((Stays.grows HGT.out).trans ((Stays.grows HCw6.out).trans (hs7.less fun k hk => .inl hk)))
      have HD7 := Lib.hid (hd7.less (out' := out) fun k hk => .inl hk)
      clear hd7 hs7
      go_wp2_with (fail)
      go_ret3
      exact ⟨rfl, HD7.out, HS7.out⟩
end
end Go.Proofs.Ytdkpbphgaenlnaa

/-
  Segments: a frame at a place, and Get.
-/
namespace Go.Proofs.Ytdkpbphgaenlnaa
open Go.RowKit
set_option linter.unusedVariables false
set_option linter.unusedSimpArgs false
/-- The frame at a place, so far as its length tells. -/
def frameP (m : Dk) (n : Int) (x : Int) : Option (List UInt8) × Int :=
  if (m.read (nmS n) x 4).2 = 0 then
    (if (firstB ((m.read (nmS n) x 4).1.getD [])).2.2 = 21 then
      (if (m.read (nmS n) x (sizeN (toldN ((m.read (nmS n) x 4).1.getD [])))).2 = 1 then (none, 21) else m.read (nmS n) x (sizeN (toldN ((m.read (nmS n) x 4).1.getD []))))
     else (none, 22))
  else (none, (m.read (nmS n) x 4).2)
section
variable {B d K : Nat} {w0 w : World} {out : Nat → Prop} {m : Dk}
set_option maxRecDepth 100000 in
set_option maxHeartbeats 4000000 in
theorem frameAt_any (w : World) (n x : Int) (h : DkIn B w0 w d out m) (ok : DkOk K m) (hK : K ≤ 100000000) (hx : -9223372036854775808 ≤ x ∧ x ≤ 9223372036854775807) :
    Calls Try.prog 71 #[.agg (segV d n), .int .i64 x] w fun e w' => GotTo w (frameP m n x) e w' := by
  have hsm := nmS_small n
  obtain ⟨⟨rb, ec⟩, hrd⟩ : ∃ q, m.read (nmS n) x 4 = q := ⟨_, rfl⟩
  have hlen := fun h0 => read_len (m := m) (n := nmS n) (x := x) (k := 4) h0
  have hr1 := fun w' (hg : Grows w w') => read_got (nmS n) x 4 (h.grow hg) ok (by omega) (by omega) hx (by omega) hrd
  have hr2 := fun (k : Int) (hk : -9223372036854775808 ≤ k ∧ k ≤ 9223372036854775807) w' (hg : Grows w w') => read_got (nmS n) x k (h.grow hg) ok (by omega) (by omega) hx hk rfl
  unfold frameP
  rw [hrd] at hlen ⊢
  dsimp only at hlen ⊢
  unfold segV
  obtain ⟨s, hs⟩ : ∃ s : ByteArray, (⟨(nmS n).toArray⟩ : ByteArray) = s := ⟨_, rfl⟩
  rw [hs] at hr1 hr2 ⊢
  have HSB := Lib.hid hs
  have HR1 := Lib.hid hr1
  have HR2 := Lib.hid hr2
  unfold GotTo at HR1
  dsimp only at HR1
  clear h ok hK hrd hr1 hr2 hs hsm
  by_cases hec : ec = 0
  rotate_left 1
  · have hzb : (ec != 0) = true := by rw [bne_iff_ne]; exact hec
    rw [if_neg hec]
    clear hec hlen
    go_enter Try.func71, Try.ntmps71
    have hwm := Whole.made w 107 #[.pointer (some ⟨d, 0, none⟩), .int .i64 n, .string s]
    have c0 := hwm.cell 0
    have c2 := hwm.cell 2
    simp only [List.getElem?_toArray, List.getElem?_cons_zero, List.getElem?_cons_succ] at c0 c2
    have HWM := Lib.hid hwm
    have HG0 := Lib.hid (grows_alloc w (.cells #[.pointer (some ⟨d, 0, none⟩), .int .i64 n, .string s] 107))
    clear hwm
    go_wp2_with (fail)
    refine (HR1.out _ HG0.out).mono ?_
    rintro e w1 ⟨HA, hc, rfl, hsl, hg⟩
    have HSL := Lib.hid hsl
    have HG1 := Lib.hid (Grows.trans HG0.out hg)
    have HW1 := Lib.hid (hg.whole HWM.out)
    clear hsl hg c0 c2
    go_wp2_with (fail)
    go_ret2
    exact ⟨none, 0, rfl, Sl.nil _, HG1.out⟩
  subst hec
  rw [if_pos rfl]
  obtain ⟨bs, rfl, hbl⟩ := hlen rfl
  have hbl : bs.length = 4 := by omega
  simp only [Option.getD_some] at HR1 ⊢
  rw [hbl] at HR1
  clear hlen
  obtain ⟨fe, hfe⟩ : ∃ q, (firstB bs).2.2 = q := ⟨_, rfl⟩
  rw [hfe]
  by_cases h21 : fe = 21
  rotate_left 1
  · have hnb : ((fe : Int) != 21) = true := by rw [bne_iff_ne]; omega
    rw [if_neg h21]
    have HFE := Lib.hid hfe
    clear h21 hfe
    go_enter Try.func71, Try.ntmps71
    have hwm := Whole.made w 107 #[.pointer (some ⟨d, 0, none⟩), .int .i64 n, .string s]
    have c0 := hwm.cell 0
    have c2 := hwm.cell 2
    simp only [List.getElem?_toArray, List.getElem?_cons_zero, List.getElem?_cons_succ] at c0 c2
    have HWM := Lib.hid hwm
    have HG0 := Lib.hid (grows_alloc w (.cells #[.pointer (some ⟨d, 0, none⟩), .int .i64 n, .string s] 107))
    clear hwm
    go_wp2_with (fail)
    refine (HR1.out _ HG0.out).mono ?_
    rintro e w1 ⟨HA, hc, rfl, hsl, hg⟩
    have HSL := Lib.hid hsl
    have HG1 := Lib.hid (Grows.trans HG0.out hg)
    have HW1 := Lib.hid (hg.whole HWM.out)
    clear hsl hg c0 c2
    go_wp2_with (fail)
    refine (first_own HA 4 hc bs w1 HSL.out (by omega)).mono ?_
    rintro e w2 ⟨A2, n2, c2, rfl, ho2, hb2⟩
    have HG2 := Lib.hid (Grows.trans HG1.out hb2)
    have HW2 := Lib.hid (Grows.whole hb2 HW1.out)
    have hs2 := Sl.grow hb2 HSL.out
    have HS2 := Lib.hid hs2
    clear ho2 hb2 hs2
    rw [HFE.out]
    go_wp2_with (fail)
    go_ret2
    exact ⟨none, 0, rfl, Sl.nil _, HG2.out⟩
  subst h21
  rw [if_pos rfl]
  have HFE := Lib.hid hfe
  clear hfe
  obtain ⟨L, hL⟩ : ∃ L, toldN bs = L := ⟨_, rfl⟩
  have hLb : L < 65536 := by rw [← hL]; unfold toldN; have := (bs.getD 0 0).toNat_lt; have := (bs.getD 1 0).toNat_lt; omega
  rw [hL]
  have HL := Lib.hid hL
  obtain ⟨z, hz⟩ : ∃ z, sizeN (L : Int) = z := ⟨_, rfl⟩
  have hzb : -9223372036854775808 ≤ z ∧ z ≤ 9223372036854775807 := by rw [← hz]; unfold sizeN; split <;> omega
  have HSN := Lib.hid (fun w' => fsize_any (L : Int) w' (by omega) (by omega))
  rw [hz] at HSN ⊢
  have hrz := HR2.out z hzb
  obtain ⟨⟨qb, qe⟩, hq⟩ : ∃ q, m.read (nmS n) x z = q := ⟨_, rfl⟩
  rw [hq] at hrz ⊢
  have HQ := Lib.hid hrz
  unfold GotTo at HQ
  dsimp only at HQ
  clear hL hLb hz hzb hrz hq
  obtain ⟨qs, hqs⟩ : ∃ qs, qb.getD [] = qs := ⟨_, rfl⟩
  have HQE := Lib.hid hqs
  rw [hqs] at HQ
  clear hqs
  by_cases hq1 : qe = 1
  · have hqb : (qe == 1) = true := by rw [beq_iff_eq]; exact hq1
    rw [if_pos hq1]
    clear hq1
    go_enter Try.func71, Try.ntmps71
    have hwm := Whole.made w 107 #[.pointer (some ⟨d, 0, none⟩), .int .i64 n, .string s]
    have c0 := hwm.cell 0
    have c2 := hwm.cell 2
    simp only [List.getElem?_toArray, List.getElem?_cons_zero, List.getElem?_cons_succ] at c0 c2
    have HWM := Lib.hid hwm
    have HG0 := Lib.hid (grows_alloc w (.cells #[.pointer (some ⟨d, 0, none⟩), .int .i64 n, .string s] 107))
    clear hwm
    go_wp2_with (fail)
    refine (HR1.out _ HG0.out).mono ?_
    rintro e w1 ⟨HA, hc, rfl, hsl, hg⟩
    have HSL := Lib.hid hsl
    have HG1 := Lib.hid (Grows.trans HG0.out hg)
    have HW1 := Lib.hid (hg.whole HWM.out)
    clear hsl hg c0 c2
    go_wp2_with (fail)
    refine (first_own HA 4 hc bs w1 HSL.out (by omega)).mono ?_
    rintro e w2 ⟨A2, n2, c2, rfl, ho2, hb2⟩
    have HG2 := Lib.hid (Grows.trans HG1.out hb2)
    have HW2 := Lib.hid (Grows.whole hb2 HW1.out)
    have hs2 := Sl.grow hb2 HSL.out
    have HS2 := Lib.hid hs2
    clear ho2 hb2 hs2
    rw [HFE.out]
    go_wp2_with (fail)
    have h0 := HS2.out.bytes.spot (k := 0) (by omega)
    have h1 := HS2.out.bytes.spot (k := 1) (by omega)
    obtain ⟨ad, rfl, hb0, hc0⟩ := h0
    obtain ⟨ad', e, _, hc1⟩ := h1
    injection e with e
    subst e
    obtain ⟨b0, hb0e⟩ : ∃ b, bs.getD 0 0 = b := ⟨_, rfl⟩
    obtain ⟨b1, hb1e⟩ : ∃ b, bs.getD 1 0 = b := ⟨_, rfl⟩
    rw [hb0e, Addr.add_zero'] at hc0
    rw [hb1e] at hc1
    have htold : toldN bs = 256 * b0.toNat + b1.toNat := by unfold toldN; rw [hb0e, hb1e]
    rw [HL.out] at htold
    have hor := told_i64 b0.toNat b1.toNat b0.toNat_lt b1.toNat_lt
    rw [← htold, IntWalk.wrap64_in (b0.toNat : Int) (by have := b0.toNat_lt; omega), IntWalk.wrap64_in (b1.toNat : Int) (by have := b1.toNat_lt; omega), IntWalk.wrap64_in ((b0.toNat : Int) * 256) (by have := b0.toNat_lt; omega)] at hor
    have hor : (IntKind.i64.wrap (b0.toNat : Int) = (b0.toNat : Int) ∧ IntKind.i64.wrap (b1.toNat : Int) = (b1.toNat : Int) ∧ IntKind.i64.wrap ((b0.toNat : Int) * 256) = (b0.toNat : Int) * 256) ∧ bits BinOp.or IntKind.i64 ((b0.toNat : Int) * 256) (b1.toNat : Int) = (L : Int) := ⟨⟨IntWalk.i64_in _ (by have := b0.toNat_lt; omega), IntWalk.i64_in _ (by have := b1.toNat_lt; omega), IntWalk.i64_in _ (by have := b0.toNat_lt; omega)⟩, hor⟩
    rw [Addr.add_succ' ad 0] at hc1
    have HC := Lib.hid (show ∀ w', Grows w2 w' → (w'.cell? ad = some (.int .u8 (b0.toNat : Nat)) ∧ w'.cell? { block := ad.block, off := ad.off + (0 + 1) } = some (.int .u8 (b1.toNat : Nat))) ∧ w'.cell? { block := w.heap.size, off := 0 } = some (.pointer (some ⟨d, 0, none⟩)) ∧ w'.cell? { block := w.heap.size, off := 2 } = some (.string s) from fun w' hC => by
      have hx := hC.whole HW2.out
      exact ⟨⟨(hC.cell hb0).trans hc0, (hC.cell (show ({ block := ad.block, off := ad.off + (0 + 1) } : Addr).block < w2.heap.size from hb0)).trans hc1⟩, hx.cell 0, hx.cell 2⟩)
    have HOR := Lib.hid hor
    clear hb0 hc0 hc1 hb0e hb1e htold hor
    refine wp_region_facts (E := Grows) [valFact (.pointer (some ⟨w.heap.size, 0, none⟩)), valFact (.pointer (some ⟨d, 0, none⟩)), valFact (.pointer (some ⟨w.heap.size, 2, none⟩)), valFact (.string s), valFact (.int .i64 x), valFact (.slice (some ad) 4 hc), valFact (.pointer (some ad)), valFact (.int .u8 (b0.toNat : Nat)), valFact (.int .i64 (b0.toNat : Nat)), valFact (.int .i64 ((b0.toNat : Nat) * 256)), valFact (.slice (some ad) 4 hc), valFact (.pointer (some (ad.add 1))), valFact (.int .u8 (b1.toNat : Nat)), valFact (.int .i64 (b1.toNat : Nat)), valFact (.int .i64 (L : Nat)), valFact (.int .i64 z), gotFact (qs) (qe), gotFact (qs) (qe), slFact (qs), valFact (.int .i64 qe), slFact (qs), valFact (.int .i64 qe)] (by kernel_rfl) (by kernel_rfl) (fun _ _ _ => Grows.trans) (grows_drew _) ?_
    refine f_val (.pointer (some ⟨w.heap.size, 0, none⟩)) (by rfl) ?_ ?_
    · intro w' hC; clear hC; first | (go_simp; done)
    simp only [Act.put, List.setIfInBounds_toArray, List.set_cons_zero, List.set_cons_succ]
    refine f_val (.pointer (some ⟨d, 0, none⟩)) (by rfl) ?_ ?_
    · intro w' hC; obtain ⟨⟨x0, x1⟩, x2, x3⟩ := HC.out w' hC; clear hC; first | (go_simp; done)
    simp only [Act.put, List.setIfInBounds_toArray, List.set_cons_zero, List.set_cons_succ]
    refine f_val (.pointer (some ⟨w.heap.size, 2, none⟩)) (by rfl) ?_ ?_
    · intro w' hC; clear hC; first | (go_simp; done)
    simp only [Act.put, List.setIfInBounds_toArray, List.set_cons_zero, List.set_cons_succ]
    refine f_val (.string s) (by rfl) ?_ ?_
    · intro w' hC; obtain ⟨⟨x0, x1⟩, x2, x3⟩ := HC.out w' hC; clear hC; first | (go_simp; done)
    simp only [Act.put, List.setIfInBounds_toArray, List.set_cons_zero, List.set_cons_succ]
    refine f_val (.int .i64 x) (by rfl) ?_ ?_
    · intro w' hC; clear hC; first | (go_simp; done)
    simp only [Act.put, List.setIfInBounds_toArray, List.set_cons_zero, List.set_cons_succ]
    refine f_val (.slice (some ad) 4 hc) (by rfl) ?_ ?_
    · intro w' hC; clear hC; first | (go_simp; done)
    simp only [Act.put, List.setIfInBounds_toArray, List.set_cons_zero, List.set_cons_succ]
    refine f_val (.pointer (some ad)) (by rfl) ?_ ?_
    · intro w' hC; clear hC; first | (go_simp; done)
    simp only [Act.put, List.setIfInBounds_toArray, List.set_cons_zero, List.set_cons_succ]
    refine f_val (.int .u8 (b0.toNat : Nat)) (by rfl) ?_ ?_
    · intro w' hC; obtain ⟨⟨x0, x1⟩, x2, x3⟩ := HC.out w' hC; clear hC; first | (go_simp; done)
    simp only [Act.put, List.setIfInBounds_toArray, List.set_cons_zero, List.set_cons_succ]
    refine f_val (.int .i64 (b0.toNat : Nat)) (by rfl) ?_ ?_
    · intro w' hC; obtain ⟨⟨z1, z2, z3⟩, z4⟩ := HOR.out; clear hC; first | (go_simp; done)
    simp only [Act.put, List.setIfInBounds_toArray, List.set_cons_zero, List.set_cons_succ]
    refine f_val (.int .i64 ((b0.toNat : Nat) * 256)) (by rfl) ?_ ?_
    · intro w' hC; obtain ⟨⟨z1, z2, z3⟩, z4⟩ := HOR.out; clear hC; first | (go_simp; done)
    simp only [Act.put, List.setIfInBounds_toArray, List.set_cons_zero, List.set_cons_succ]
    refine f_val (.slice (some ad) 4 hc) (by rfl) ?_ ?_
    · intro w' hC; clear hC; first | (go_simp; done)
    simp only [Act.put, List.setIfInBounds_toArray, List.set_cons_zero, List.set_cons_succ]
    refine f_val (.pointer (some (ad.add 1))) (by rfl) ?_ ?_
    · intro w' hC; clear hC; first | (go_simp; done)
    simp only [Act.put, List.setIfInBounds_toArray, List.set_cons_zero, List.set_cons_succ]
    refine f_val (.int .u8 (b1.toNat : Nat)) (by rfl) ?_ ?_
    · intro w' hC; obtain ⟨⟨x0, x1⟩, x2, x3⟩ := HC.out w' hC; clear hC; first | (go_simp; done)
    simp only [Act.put, List.setIfInBounds_toArray, List.set_cons_zero, List.set_cons_succ]
    refine f_val (.int .i64 (b1.toNat : Nat)) (by rfl) ?_ ?_
    · intro w' hC; obtain ⟨⟨z1, z2, z3⟩, z4⟩ := HOR.out; clear hC; first | (go_simp; done)
    simp only [Act.put, List.setIfInBounds_toArray, List.set_cons_zero, List.set_cons_succ]
    refine f_val (.int .i64 (L : Nat)) (by rfl) ?_ ?_
    · intro w' hC; obtain ⟨⟨z1, z2, z3⟩, z4⟩ := HOR.out; clear hC; first | (go_simp; done)
    simp only [Act.put, List.setIfInBounds_toArray, List.set_cons_zero, List.set_cons_succ]
    refine f_call 76 #[.int .i64 (L : Nat)] (.int .i64 z) (by rfl) (by intro w' hC; clear hC; go_simp) ?_ ?_
    · intro w' hC hks; exact (HSN.out w').mono fun e w'' hh => ⟨hh.1, hh.2 ▸ Grows.refl _⟩
    simp only [Act.put, List.setIfInBounds_toArray, List.set_cons_zero, List.set_cons_succ]
    refine f_got (qs) (qe) 60 #[.pointer (some ⟨d, 0, none⟩), .string s, .int .i64 x, .int .i64 z] (by rfl) (by intro w' hC; clear hC; go_simp) ?_ ?_
    · intro w' hC hks; exact HQ.out w' (Grows.trans HG2.out hC)
    intro Q1 p1
    simp only [Act.put, List.setIfInBounds_toArray, List.set_cons_zero, List.set_cons_succ]
    refine f_gotv (qs) (qe) Q1 p1 (by rfl) ?_ ?_
    · intro w' hC hks; refine ⟨?_, Known.get hks 0 rfl rfl⟩; clear hC hks; first | (go_simp; done)
    intro Q2 p2
    simp only [Act.put, List.setIfInBounds_toArray, List.set_cons_zero, List.set_cons_succ]
    refine f_slv (qs) Q2 p2 (by rfl) ?_ ?_
    · intro w' hC hks; refine ⟨?_, Known.get hks 0 rfl rfl⟩; clear hC hks; first | (go_simp; done)
    intro Q3 p3
    simp only [Act.put, List.setIfInBounds_toArray, List.set_cons_zero, List.set_cons_succ]
    refine f_val (.int .i64 qe) (by rfl) ?_ ?_
    · intro w' hC; clear hC; first | (go_simp; done)
    simp only [Act.put, List.setIfInBounds_toArray, List.set_cons_zero, List.set_cons_succ]
    refine f_slv (qs) Q3 p3 (by rfl) ?_ ?_
    · intro w' hC hks; refine ⟨?_, Known.get hks 0 rfl rfl⟩; clear hC hks; first | (go_simp; done)
    intro QA qc
    simp only [Act.put, List.setIfInBounds_toArray, List.set_cons_zero, List.set_cons_succ]
    refine f_val (.int .i64 qe) (by rfl) ?_ ?_
    · intro w' hC; clear hC; first | (go_simp; done)
    simp only [Act.put, List.setIfInBounds_toArray, List.set_cons_zero, List.set_cons_succ]
    intro w7 hC hks
    have HCw7 := Lib.hid hC
    have HSQ := Lib.hid (Known.at hks 0 rfl)
    clear hC hks
    have HQS := Lib.hid (And.intro HSQ.out (Grows.trans HG2.out HCw7.out))
    go_wp2_with (fail)
    go_ret2
    exact ⟨none, 0, rfl, Sl.nil _, HQS.out.2⟩
  have hqb : (qe == 1) = false := by rw [beq_eq_false_iff_ne]; exact hq1
  rw [if_neg hq1]
  clear hq1
  go_enter Try.func71, Try.ntmps71
  have hwm := Whole.made w 107 #[.pointer (some ⟨d, 0, none⟩), .int .i64 n, .string s]
  have c0 := hwm.cell 0
  have c2 := hwm.cell 2
  simp only [List.getElem?_toArray, List.getElem?_cons_zero, List.getElem?_cons_succ] at c0 c2
  have HWM := Lib.hid hwm
  have HG0 := Lib.hid (grows_alloc w (.cells #[.pointer (some ⟨d, 0, none⟩), .int .i64 n, .string s] 107))
  clear hwm
  go_wp2_with (fail)
  refine (HR1.out _ HG0.out).mono ?_
  rintro e w1 ⟨HA, hc, rfl, hsl, hg⟩
  have HSL := Lib.hid hsl
  have HG1 := Lib.hid (Grows.trans HG0.out hg)
  have HW1 := Lib.hid (hg.whole HWM.out)
  clear hsl hg c0 c2
  go_wp2_with (fail)
  refine (first_own HA 4 hc bs w1 HSL.out (by omega)).mono ?_
  rintro e w2 ⟨A2, n2, c2, rfl, ho2, hb2⟩
  have HG2 := Lib.hid (Grows.trans HG1.out hb2)
  have HW2 := Lib.hid (Grows.whole hb2 HW1.out)
  have hs2 := Sl.grow hb2 HSL.out
  have HS2 := Lib.hid hs2
  clear ho2 hb2 hs2
  rw [HFE.out]
  go_wp2_with (fail)
  have h0 := HS2.out.bytes.spot (k := 0) (by omega)
  have h1 := HS2.out.bytes.spot (k := 1) (by omega)
  obtain ⟨ad, rfl, hb0, hc0⟩ := h0
  obtain ⟨ad', e, _, hc1⟩ := h1
  injection e with e
  subst e
  obtain ⟨b0, hb0e⟩ : ∃ b, bs.getD 0 0 = b := ⟨_, rfl⟩
  obtain ⟨b1, hb1e⟩ : ∃ b, bs.getD 1 0 = b := ⟨_, rfl⟩
  rw [hb0e, Addr.add_zero'] at hc0
  rw [hb1e] at hc1
  have htold : toldN bs = 256 * b0.toNat + b1.toNat := by unfold toldN; rw [hb0e, hb1e]
  rw [HL.out] at htold
  have hor := told_i64 b0.toNat b1.toNat b0.toNat_lt b1.toNat_lt
  rw [← htold, IntWalk.wrap64_in (b0.toNat : Int) (by have := b0.toNat_lt; omega), IntWalk.wrap64_in (b1.toNat : Int) (by have := b1.toNat_lt; omega), IntWalk.wrap64_in ((b0.toNat : Int) * 256) (by have := b0.toNat_lt; omega)] at hor
  have hor : (IntKind.i64.wrap (b0.toNat : Int) = (b0.toNat : Int) ∧ IntKind.i64.wrap (b1.toNat : Int) = (b1.toNat : Int) ∧ IntKind.i64.wrap ((b0.toNat : Int) * 256) = (b0.toNat : Int) * 256) ∧ bits BinOp.or IntKind.i64 ((b0.toNat : Int) * 256) (b1.toNat : Int) = (L : Int) := ⟨⟨IntWalk.i64_in _ (by have := b0.toNat_lt; omega), IntWalk.i64_in _ (by have := b1.toNat_lt; omega), IntWalk.i64_in _ (by have := b0.toNat_lt; omega)⟩, hor⟩
  rw [Addr.add_succ' ad 0] at hc1
  have HC := Lib.hid (show ∀ w', Grows w2 w' → (w'.cell? ad = some (.int .u8 (b0.toNat : Nat)) ∧ w'.cell? { block := ad.block, off := ad.off + (0 + 1) } = some (.int .u8 (b1.toNat : Nat))) ∧ w'.cell? { block := w.heap.size, off := 0 } = some (.pointer (some ⟨d, 0, none⟩)) ∧ w'.cell? { block := w.heap.size, off := 2 } = some (.string s) from fun w' hC => by
    have hx := hC.whole HW2.out
    exact ⟨⟨(hC.cell hb0).trans hc0, (hC.cell (show ({ block := ad.block, off := ad.off + (0 + 1) } : Addr).block < w2.heap.size from hb0)).trans hc1⟩, hx.cell 0, hx.cell 2⟩)
  have HOR := Lib.hid hor
  clear hb0 hc0 hc1 hb0e hb1e htold hor
  refine wp_region_facts (E := Grows) [valFact (.pointer (some ⟨w.heap.size, 0, none⟩)), valFact (.pointer (some ⟨d, 0, none⟩)), valFact (.pointer (some ⟨w.heap.size, 2, none⟩)), valFact (.string s), valFact (.int .i64 x), valFact (.slice (some ad) 4 hc), valFact (.pointer (some ad)), valFact (.int .u8 (b0.toNat : Nat)), valFact (.int .i64 (b0.toNat : Nat)), valFact (.int .i64 ((b0.toNat : Nat) * 256)), valFact (.slice (some ad) 4 hc), valFact (.pointer (some (ad.add 1))), valFact (.int .u8 (b1.toNat : Nat)), valFact (.int .i64 (b1.toNat : Nat)), valFact (.int .i64 (L : Nat)), valFact (.int .i64 z), gotFact (qs) (qe), gotFact (qs) (qe), slFact (qs), valFact (.int .i64 qe), slFact (qs), valFact (.int .i64 qe)] (by kernel_rfl) (by kernel_rfl) (fun _ _ _ => Grows.trans) (grows_drew _) ?_
  refine f_val (.pointer (some ⟨w.heap.size, 0, none⟩)) (by rfl) ?_ ?_
  · intro w' hC; clear hC; first | (go_simp; done)
  simp only [Act.put, List.setIfInBounds_toArray, List.set_cons_zero, List.set_cons_succ]
  refine f_val (.pointer (some ⟨d, 0, none⟩)) (by rfl) ?_ ?_
  · intro w' hC; obtain ⟨⟨x0, x1⟩, x2, x3⟩ := HC.out w' hC; clear hC; first | (go_simp; done)
  simp only [Act.put, List.setIfInBounds_toArray, List.set_cons_zero, List.set_cons_succ]
  refine f_val (.pointer (some ⟨w.heap.size, 2, none⟩)) (by rfl) ?_ ?_
  · intro w' hC; clear hC; first | (go_simp; done)
  simp only [Act.put, List.setIfInBounds_toArray, List.set_cons_zero, List.set_cons_succ]
  refine f_val (.string s) (by rfl) ?_ ?_
  · intro w' hC; obtain ⟨⟨x0, x1⟩, x2, x3⟩ := HC.out w' hC; clear hC; first | (go_simp; done)
  simp only [Act.put, List.setIfInBounds_toArray, List.set_cons_zero, List.set_cons_succ]
  refine f_val (.int .i64 x) (by rfl) ?_ ?_
  · intro w' hC; clear hC; first | (go_simp; done)
  simp only [Act.put, List.setIfInBounds_toArray, List.set_cons_zero, List.set_cons_succ]
  refine f_val (.slice (some ad) 4 hc) (by rfl) ?_ ?_
  · intro w' hC; clear hC; first | (go_simp; done)
  simp only [Act.put, List.setIfInBounds_toArray, List.set_cons_zero, List.set_cons_succ]
  refine f_val (.pointer (some ad)) (by rfl) ?_ ?_
  · intro w' hC; clear hC; first | (go_simp; done)
  simp only [Act.put, List.setIfInBounds_toArray, List.set_cons_zero, List.set_cons_succ]
  refine f_val (.int .u8 (b0.toNat : Nat)) (by rfl) ?_ ?_
  · intro w' hC; obtain ⟨⟨x0, x1⟩, x2, x3⟩ := HC.out w' hC; clear hC; first | (go_simp; done)
  simp only [Act.put, List.setIfInBounds_toArray, List.set_cons_zero, List.set_cons_succ]
  refine f_val (.int .i64 (b0.toNat : Nat)) (by rfl) ?_ ?_
  · intro w' hC; obtain ⟨⟨z1, z2, z3⟩, z4⟩ := HOR.out; clear hC; first | (go_simp; done)
  simp only [Act.put, List.setIfInBounds_toArray, List.set_cons_zero, List.set_cons_succ]
  refine f_val (.int .i64 ((b0.toNat : Nat) * 256)) (by rfl) ?_ ?_
  · intro w' hC; obtain ⟨⟨z1, z2, z3⟩, z4⟩ := HOR.out; clear hC; first | (go_simp; done)
  simp only [Act.put, List.setIfInBounds_toArray, List.set_cons_zero, List.set_cons_succ]
  refine f_val (.slice (some ad) 4 hc) (by rfl) ?_ ?_
  · intro w' hC; clear hC; first | (go_simp; done)
  simp only [Act.put, List.setIfInBounds_toArray, List.set_cons_zero, List.set_cons_succ]
  refine f_val (.pointer (some (ad.add 1))) (by rfl) ?_ ?_
  · intro w' hC; clear hC; first | (go_simp; done)
  simp only [Act.put, List.setIfInBounds_toArray, List.set_cons_zero, List.set_cons_succ]
  refine f_val (.int .u8 (b1.toNat : Nat)) (by rfl) ?_ ?_
  · intro w' hC; obtain ⟨⟨x0, x1⟩, x2, x3⟩ := HC.out w' hC; clear hC; first | (go_simp; done)
  simp only [Act.put, List.setIfInBounds_toArray, List.set_cons_zero, List.set_cons_succ]
  refine f_val (.int .i64 (b1.toNat : Nat)) (by rfl) ?_ ?_
  · intro w' hC; obtain ⟨⟨z1, z2, z3⟩, z4⟩ := HOR.out; clear hC; first | (go_simp; done)
  simp only [Act.put, List.setIfInBounds_toArray, List.set_cons_zero, List.set_cons_succ]
  refine f_val (.int .i64 (L : Nat)) (by rfl) ?_ ?_
  · intro w' hC; obtain ⟨⟨z1, z2, z3⟩, z4⟩ := HOR.out; clear hC; first | (go_simp; done)
  simp only [Act.put, List.setIfInBounds_toArray, List.set_cons_zero, List.set_cons_succ]
  refine f_call 76 #[.int .i64 (L : Nat)] (.int .i64 z) (by rfl) (by intro w' hC; clear hC; go_simp) ?_ ?_
  · intro w' hC hks; exact (HSN.out w').mono fun e w'' hh => ⟨hh.1, hh.2 ▸ Grows.refl _⟩
  simp only [Act.put, List.setIfInBounds_toArray, List.set_cons_zero, List.set_cons_succ]
  refine f_got (qs) (qe) 60 #[.pointer (some ⟨d, 0, none⟩), .string s, .int .i64 x, .int .i64 z] (by rfl) (by intro w' hC; clear hC; go_simp) ?_ ?_
  · intro w' hC hks; exact HQ.out w' (Grows.trans HG2.out hC)
  intro Q1 p1
  simp only [Act.put, List.setIfInBounds_toArray, List.set_cons_zero, List.set_cons_succ]
  refine f_gotv (qs) (qe) Q1 p1 (by rfl) ?_ ?_
  · intro w' hC hks; refine ⟨?_, Known.get hks 0 rfl rfl⟩; clear hC hks; first | (go_simp; done)
  intro Q2 p2
  simp only [Act.put, List.setIfInBounds_toArray, List.set_cons_zero, List.set_cons_succ]
  refine f_slv (qs) Q2 p2 (by rfl) ?_ ?_
  · intro w' hC hks; refine ⟨?_, Known.get hks 0 rfl rfl⟩; clear hC hks; first | (go_simp; done)
  intro Q3 p3
  simp only [Act.put, List.setIfInBounds_toArray, List.set_cons_zero, List.set_cons_succ]
  refine f_val (.int .i64 qe) (by rfl) ?_ ?_
  · intro w' hC; clear hC; first | (go_simp; done)
  simp only [Act.put, List.setIfInBounds_toArray, List.set_cons_zero, List.set_cons_succ]
  refine f_slv (qs) Q3 p3 (by rfl) ?_ ?_
  · intro w' hC hks; refine ⟨?_, Known.get hks 0 rfl rfl⟩; clear hC hks; first | (go_simp; done)
  intro QA qc
  simp only [Act.put, List.setIfInBounds_toArray, List.set_cons_zero, List.set_cons_succ]
  refine f_val (.int .i64 qe) (by rfl) ?_ ?_
  · intro w' hC; clear hC; first | (go_simp; done)
  simp only [Act.put, List.setIfInBounds_toArray, List.set_cons_zero, List.set_cons_succ]
  intro w7 hC hks
  have HCw7 := Lib.hid hC
  have HSQ := Lib.hid (Known.at hks 0 rfl)
  clear hC hks
  have HQS := Lib.hid (And.intro HSQ.out (Grows.trans HG2.out HCw7.out))
  go_wp2_with (fail)
  go_ret2
  refine ⟨QA, qc, ?_, ?_, HQS.out.2⟩
  · dsimp only
    rw [HQE.out]
    rfl
  · dsimp only
    rw [HQE.out]
    exact HQS.out.1
end
end Go.Proofs.Ytdkpbphgaenlnaa

/-
  Segments: Get.
-/
namespace Go.Proofs.Ytdkpbphgaenlnaa
open Go.RowKit
set_option linter.unusedVariables false
set_option linter.unusedSimpArgs false
/-- I3, on a disk. -/
def getP (m : Dk) (n : Int) (x : Int) : Rc × Int :=
  if (frameP m n x).2 = 0 then
    (if (firstB ((frameP m n x).1.getD [])).2.2 = 0 then
      (if (getR (firstB ((frameP m n x).1.getD [])).1).isSome = true then ((getR (firstB ((frameP m n x).1.getD [])).1).getD Rc.none, 0) else (Rc.none, 22))
     else (Rc.none, ((firstB ((frameP m n x).1.getD [])).2.2 : Nat)))
  else (Rc.none, (frameP m n x).2)
theorem sizeN_small (n : Int) : sizeN n ≤ 8200 := by unfold sizeN; split <;> omega
theorem frameP_len {m : Dk} {n x : Int} (h : (frameP m n x).2 = 0) : ((frameP m n x).1.getD []).length ≤ 8200 := by
  unfold frameP at *
  by_cases h1 : (m.read (nmS n) x 4).2 = 0
  · rw [if_pos h1] at h ⊢
    by_cases h2 : (firstB ((m.read (nmS n) x 4).1.getD [])).2.2 = 21
    · rw [if_pos h2] at h ⊢
      by_cases h3 : (m.read (nmS n) x (sizeN (toldN ((m.read (nmS n) x 4).1.getD [])))).2 = 1
      · rw [if_pos h3] at h; cases h
      · rw [if_neg h3] at h ⊢
        obtain ⟨bs, e, hl⟩ := read_len h
        rw [e]
        have := sizeN_small (toldN ((m.read (nmS n) x 4).1.getD []) : Int)
        show bs.length ≤ 8200
        omega
    · rw [if_neg h2] at h; cases h
  · rw [if_neg h1] at h
    exact absurd h h1
theorem firstB_len (bs : List UInt8) : (firstB bs).1.length ≤ bs.length := by
  unfold firstB
  repeat' split
  all_goals (try simp only [List.length_nil, List.length_take, List.length_drop]) <;> omega
def rcV (r : Rc) (LA : Option Addr) (ln lc : Nat) (BA : Option Addr) (bn bc : Nat) : Value := .agg #[.int .i64 r.kind, .string ⟨r.key.toArray⟩, .int .i64 r.id, .int .i64 r.no, .int .i64 r.size, .slice LA ln lc, .slice BA bn bc]
section
variable {B d K : Nat} {w0 w : World} {out : Nat → Prop} {m : Dk}
set_option maxRecDepth 100000 in
set_option maxHeartbeats 4000000 in
theorem segGet_any (w : World) (n x : Int) (h : DkIn B w0 w d out m) (ok : DkOk K m) (hK : K ≤ 100000000) (hx : -9223372036854775808 ≤ x ∧ x ≤ 9223372036854775807) :
    Calls Try.prog 32 #[.pointer (some ⟨d, 0, none⟩), .int .i64 n, .int .i64 x] w fun e w' => ∃ LA ln lc BA bn bc, e = .returned (.tuple #[rcV (getP m n x).1 LA ln lc BA bn bc, .int .i64 (getP m n x).2]) ∧ RcIn w' LA ln lc BA bn bc (getP m n x).1 ∧ Grows w w' := by
  have HO := Lib.hid (fun w' => segOf_any w' d n)
  have HF := Lib.hid (fun w' (hg : Grows w w') => frameAt_any w' n x (h.grow hg) ok hK hx)
  have hfl := fun h0 => frameP_len (m := m) (n := n) (x := x) h0
  unfold getP rcV
  obtain ⟨⟨fb, fe⟩, hfr⟩ : ∃ q, frameP m n x = q := ⟨_, rfl⟩
  rw [hfr] at HF hfl ⊢
  unfold GotTo at HF
  dsimp only at HF hfl ⊢
  obtain ⟨bs, hbs⟩ : ∃ q, fb.getD [] = q := ⟨_, rfl⟩
  rw [hbs] at HF hfl ⊢
  obtain ⟨sv, hsv⟩ : ∃ q, segV d n = q := ⟨_, rfl⟩
  rw [hsv] at HF HO
  clear h ok hK hfr hbs hsv
  by_cases hf : fe = 0
  rotate_left 1
  · have hzb : (fe != 0) = true := by rw [bne_iff_ne]; exact hf
    rw [if_neg hf]
    clear hf hfl
    go_enter Try.func32, Try.ntmps32
    go_wp2_with (fail)
    refine (HO.out _).mono ?_
    rintro e w1 ⟨rfl, hg1⟩
    have HG1 := Lib.hid (Grows.trans (grows_alloc w (.cells #[.int .i64 0, .string ⟨#[]⟩, .int .i64 0, .int .i64 0, .int .i64 0, .slice none 0 0, .slice none 0 0] 59)) hg1)
    have HZ1 := Lib.hid (hg1.whole (Whole.made w 59 #[.int .i64 0, .string ⟨#[]⟩, .int .i64 0, .int .i64 0, .int .i64 0, .slice none 0 0, .slice none 0 0]))
    clear hg1
    go_wp2_with (fail)
    refine (HF.out w1 HG1.out).mono ?_
    rintro e w2 ⟨FA, fc, rfl, hsl, hg⟩
    have HSL := Lib.hid hsl
    have HG := Lib.hid (Grows.trans HG1.out hg)
    have HZ := Lib.hid (hg.whole HZ1.out)
    clear hsl hg
    have zc0 := HZ.out.cell 0
    have zf0 := HZ.out.free 0
    have zc1 := HZ.out.cell 1
    have zf1 := HZ.out.free 1
    have zc2 := HZ.out.cell 2
    have zf2 := HZ.out.free 2
    have zc3 := HZ.out.cell 3
    have zf3 := HZ.out.free 3
    have zc4 := HZ.out.cell 4
    have zf4 := HZ.out.free 4
    have zc5 := HZ.out.cell 5
    have zf5 := HZ.out.free 5
    have zc6 := HZ.out.cell 6
    have zf6 := HZ.out.free 6
    simp only [List.getElem?_toArray, List.getElem?_cons_zero, List.getElem?_cons_succ] at zc0 zc1 zc2 zc3 zc4 zc5 zc6
    go_wp2_with (fail)
    obtain ⟨W, hW, hwh, hwt⟩ := store7 HZ.out (.int .i64 0) (.string ⟨#[]⟩) (.int .i64 0) (.int .i64 0) (.int .i64 0) (.slice none 0 0) (.slice none 0 0)
    rw [hW]
    have hbW := hwt.below (by have := HZ.out.lt; omega)
    clear hW
    refine bodyPost_ret (results_row_tmp rfl _ _ w.heap.size _ _ _ _ _ _ _ _ (.int .i64 fe) rfl rfl hwh) rfl ?_
    exact ⟨none, 0, 0, none, 0, 0, rfl, (RcOwn.nil W 0 0 [] 0 0 0).inn, Below.trans HG.out hbW⟩
  subst hf
  rw [if_pos rfl]
  have HFL := Lib.hid (hfl rfl)
  have HFB := Lib.hid (firstB_len bs)
  clear hfl
  obtain ⟨fq, hfq⟩ : ∃ q, (firstB bs).2.2 = q := ⟨_, rfl⟩
  rw [hfq]
  have HFE := Lib.hid hfq
  clear hfq
  by_cases hz : fq = 0
  rotate_left 1
  · have hzb : ((fq : Int) != 0) = true := by rw [bne_iff_ne]; omega
    rw [if_neg hz]
    clear hz
    go_enter Try.func32, Try.ntmps32
    go_wp2_with (fail)
    refine (HO.out _).mono ?_
    rintro e w1 ⟨rfl, hg1⟩
    have HG1 := Lib.hid (Grows.trans (grows_alloc w (.cells #[.int .i64 0, .string ⟨#[]⟩, .int .i64 0, .int .i64 0, .int .i64 0, .slice none 0 0, .slice none 0 0] 59)) hg1)
    have HZ1 := Lib.hid (hg1.whole (Whole.made w 59 #[.int .i64 0, .string ⟨#[]⟩, .int .i64 0, .int .i64 0, .int .i64 0, .slice none 0 0, .slice none 0 0]))
    clear hg1
    go_wp2_with (fail)
    refine (HF.out w1 HG1.out).mono ?_
    rintro e w2 ⟨FA, fc, rfl, hsl, hg⟩
    have HSL := Lib.hid hsl
    have HG := Lib.hid (Grows.trans HG1.out hg)
    have HZ := Lib.hid (hg.whole HZ1.out)
    clear hsl hg
    go_wp2_with (fail)
    refine (first_own FA bs.length fc bs w2 HSL.out (by have := HFL.out; omega)).mono ?_
    rintro e w3 ⟨A2, n2, c2, rfl, ho2, hb2⟩
    have HG' := Lib.hid (Grows.trans HG.out hb2)
    have HZ' := Lib.hid (Grows.whole hb2 HZ.out)
    have HS2 := Lib.hid (Sl.owned ho2)
    clear HG HZ
    have HG := HG'
    have HZ := HZ'
    clear HG' HZ' ho2 hb2
    rw [HFE.out]
    have zc0 := HZ.out.cell 0
    have zf0 := HZ.out.free 0
    have zc1 := HZ.out.cell 1
    have zf1 := HZ.out.free 1
    have zc2 := HZ.out.cell 2
    have zf2 := HZ.out.free 2
    have zc3 := HZ.out.cell 3
    have zf3 := HZ.out.free 3
    have zc4 := HZ.out.cell 4
    have zf4 := HZ.out.free 4
    have zc5 := HZ.out.cell 5
    have zf5 := HZ.out.free 5
    have zc6 := HZ.out.cell 6
    have zf6 := HZ.out.free 6
    simp only [List.getElem?_toArray, List.getElem?_cons_zero, List.getElem?_cons_succ] at zc0 zc1 zc2 zc3 zc4 zc5 zc6
    go_wp2_with (fail)
    obtain ⟨W, hW, hwh, hwt⟩ := store7 HZ.out (.int .i64 0) (.string ⟨#[]⟩) (.int .i64 0) (.int .i64 0) (.int .i64 0) (.slice none 0 0) (.slice none 0 0)
    rw [hW]
    have hbW := hwt.below (by have := HZ.out.lt; omega)
    clear hW
    refine bodyPost_ret (results_row_tmp rfl _ _ w.heap.size _ _ _ _ _ _ _ _ (.int .i64 (fq : Int)) rfl rfl hwh) rfl ?_
    exact ⟨none, 0, 0, none, 0, 0, rfl, (RcOwn.nil W 0 0 [] 0 0 0).inn, Below.trans HG.out hbW⟩
  subst hz
  rw [if_pos rfl]
  obtain ⟨ro, hro⟩ : ∃ q, (getR (firstB bs).1).getD Rc.none = q := ⟨_, rfl⟩
  obtain ⟨so, hso⟩ : ∃ q, (getR (firstB bs).1).isSome = q := ⟨_, rfl⟩
  rw [hro, hso]
  have HRO := Lib.hid hro
  have HSO := Lib.hid hso
  clear hro hso
  cases so with
  | false =>
    rw [if_neg (by decide)]
    go_enter Try.func32, Try.ntmps32
    go_wp2_with (fail)
    refine (HO.out _).mono ?_
    rintro e w1 ⟨rfl, hg1⟩
    have HG1 := Lib.hid (Grows.trans (grows_alloc w (.cells #[.int .i64 0, .string ⟨#[]⟩, .int .i64 0, .int .i64 0, .int .i64 0, .slice none 0 0, .slice none 0 0] 59)) hg1)
    have HZ1 := Lib.hid (hg1.whole (Whole.made w 59 #[.int .i64 0, .string ⟨#[]⟩, .int .i64 0, .int .i64 0, .int .i64 0, .slice none 0 0, .slice none 0 0]))
    clear hg1
    go_wp2_with (fail)
    refine (HF.out w1 HG1.out).mono ?_
    rintro e w2 ⟨FA, fc, rfl, hsl, hg⟩
    have HSL := Lib.hid hsl
    have HG := Lib.hid (Grows.trans HG1.out hg)
    have HZ := Lib.hid (hg.whole HZ1.out)
    clear hsl hg
    go_wp2_with (fail)
    refine (first_own FA bs.length fc bs w2 HSL.out (by have := HFL.out; omega)).mono ?_
    rintro e w3 ⟨A2, n2, c2, rfl, ho2, hb2⟩
    have HG' := Lib.hid (Grows.trans HG.out hb2)
    have HZ' := Lib.hid (Grows.whole hb2 HZ.out)
    have HS2 := Lib.hid (Sl.owned ho2)
    clear HG HZ
    have HG := HG'
    have HZ := HZ'
    clear HG' HZ' ho2 hb2
    rw [HFE.out]
    go_wp2_with (fail)
    refine (get_any _ _ _ _ w3 HS2.out (by have := HS2.out.len; have := HFB.out; have := HFL.out; omega)).mono ?_
    rintro e w4 ⟨LA, ln, lc, BA, bn, bc, rfl, hr, hb⟩
    have HR := Lib.hid hr
    have HG4 := Lib.hid (Grows.trans HG.out hb)
    have HZ4 := Lib.hid (Grows.whole hb HZ.out)
    clear HG hr hb
    rw [HRO.out] at HR
    have HZ5 := Lib.hid ((grows_alloc w4 (.cells #[.int .i64 ro.kind, .string ⟨ro.key.toArray⟩, .int .i64 ro.id, .int .i64 ro.no, .int .i64 ro.size, .slice LA ln lc, .slice BA bn bc] 59)).whole HZ4.out)
    have HG5 := Lib.hid (Grows.trans HG4.out (grows_alloc w4 (.cells #[.int .i64 ro.kind, .string ⟨ro.key.toArray⟩, .int .i64 ro.id, .int .i64 ro.no, .int .i64 ro.size, .slice LA ln lc, .slice BA bn bc] 59)))
    have HM5 := Lib.hid (Whole.made w4 59 #[.int .i64 ro.kind, .string ⟨ro.key.toArray⟩, .int .i64 ro.id, .int .i64 ro.no, .int .i64 ro.size, .slice LA ln lc, .slice BA bn bc])
    have HR5 := Lib.hid (HR.out.grow (grows_alloc w4 (.cells #[.int .i64 ro.kind, .string ⟨ro.key.toArray⟩, .int .i64 ro.id, .int .i64 ro.no, .int .i64 ro.size, .slice LA ln lc, .slice BA bn bc] 59)))
    rw [HSO.out, HRO.out]
    have zc0 := HZ5.out.cell 0
    have zf0 := HZ5.out.free 0
    have zc1 := HZ5.out.cell 1
    have zf1 := HZ5.out.free 1
    have zc2 := HZ5.out.cell 2
    have zf2 := HZ5.out.free 2
    have zc3 := HZ5.out.cell 3
    have zf3 := HZ5.out.free 3
    have zc4 := HZ5.out.cell 4
    have zf4 := HZ5.out.free 4
    have zc5 := HZ5.out.cell 5
    have zf5 := HZ5.out.free 5
    have zc6 := HZ5.out.cell 6
    have zf6 := HZ5.out.free 6
    simp only [List.getElem?_toArray, List.getElem?_cons_zero, List.getElem?_cons_succ] at zc0 zc1 zc2 zc3 zc4 zc5 zc6
    have yc0 := HM5.out.cell 0
    have yc1 := HM5.out.cell 1
    have yc2 := HM5.out.cell 2
    have yc3 := HM5.out.cell 3
    have yc4 := HM5.out.cell 4
    have yc5 := HM5.out.cell 5
    have yc6 := HM5.out.cell 6
    simp only [List.getElem?_toArray, List.getElem?_cons_zero, List.getElem?_cons_succ] at yc0 yc1 yc2 yc3 yc4 yc5 yc6
    go_wp2_with (fail)
    obtain ⟨W, hW, hwh, hwt⟩ := store7 HZ5.out (.int .i64 0) (.string ⟨#[]⟩) (.int .i64 0) (.int .i64 0) (.int .i64 0) (.slice none 0 0) (.slice none 0 0)
    rw [hW]
    have hlt := HZ.out.lt
    have hbW := hwt.below (by have := HZ5.out.lt; omega)
    clear hW
    refine bodyPost_ret (results_row_tmp rfl _ _ w.heap.size _ _ _ _ _ _ _ _ (.int .i64 22) rfl rfl hwh) rfl ?_
    exact ⟨none, 0, 0, none, 0, 0, rfl, (RcOwn.nil W 0 0 [] 0 0 0).inn, Below.trans HG5.out hbW⟩
  | true =>
    rw [if_pos rfl]
    go_enter Try.func32, Try.ntmps32
    go_wp2_with (fail)
    refine (HO.out _).mono ?_
    rintro e w1 ⟨rfl, hg1⟩
    have HG1 := Lib.hid (Grows.trans (grows_alloc w (.cells #[.int .i64 0, .string ⟨#[]⟩, .int .i64 0, .int .i64 0, .int .i64 0, .slice none 0 0, .slice none 0 0] 59)) hg1)
    have HZ1 := Lib.hid (hg1.whole (Whole.made w 59 #[.int .i64 0, .string ⟨#[]⟩, .int .i64 0, .int .i64 0, .int .i64 0, .slice none 0 0, .slice none 0 0]))
    clear hg1
    go_wp2_with (fail)
    refine (HF.out w1 HG1.out).mono ?_
    rintro e w2 ⟨FA, fc, rfl, hsl, hg⟩
    have HSL := Lib.hid hsl
    have HG := Lib.hid (Grows.trans HG1.out hg)
    have HZ := Lib.hid (hg.whole HZ1.out)
    clear hsl hg
    go_wp2_with (fail)
    refine (first_own FA bs.length fc bs w2 HSL.out (by have := HFL.out; omega)).mono ?_
    rintro e w3 ⟨A2, n2, c2, rfl, ho2, hb2⟩
    have HG' := Lib.hid (Grows.trans HG.out hb2)
    have HZ' := Lib.hid (Grows.whole hb2 HZ.out)
    have HS2 := Lib.hid (Sl.owned ho2)
    clear HG HZ
    have HG := HG'
    have HZ := HZ'
    clear HG' HZ' ho2 hb2
    rw [HFE.out]
    go_wp2_with (fail)
    refine (get_any _ _ _ _ w3 HS2.out (by have := HS2.out.len; have := HFB.out; have := HFL.out; omega)).mono ?_
    rintro e w4 ⟨LA, ln, lc, BA, bn, bc, rfl, hr, hb⟩
    have HR := Lib.hid hr
    have HG4 := Lib.hid (Grows.trans HG.out hb)
    have HZ4 := Lib.hid (Grows.whole hb HZ.out)
    clear HG hr hb
    rw [HRO.out] at HR
    have HZ5 := Lib.hid ((grows_alloc w4 (.cells #[.int .i64 ro.kind, .string ⟨ro.key.toArray⟩, .int .i64 ro.id, .int .i64 ro.no, .int .i64 ro.size, .slice LA ln lc, .slice BA bn bc] 59)).whole HZ4.out)
    have HG5 := Lib.hid (Grows.trans HG4.out (grows_alloc w4 (.cells #[.int .i64 ro.kind, .string ⟨ro.key.toArray⟩, .int .i64 ro.id, .int .i64 ro.no, .int .i64 ro.size, .slice LA ln lc, .slice BA bn bc] 59)))
    have HM5 := Lib.hid (Whole.made w4 59 #[.int .i64 ro.kind, .string ⟨ro.key.toArray⟩, .int .i64 ro.id, .int .i64 ro.no, .int .i64 ro.size, .slice LA ln lc, .slice BA bn bc])
    have HR5 := Lib.hid (HR.out.grow (grows_alloc w4 (.cells #[.int .i64 ro.kind, .string ⟨ro.key.toArray⟩, .int .i64 ro.id, .int .i64 ro.no, .int .i64 ro.size, .slice LA ln lc, .slice BA bn bc] 59)))
    rw [HSO.out, HRO.out]
    have zc0 := HZ5.out.cell 0
    have zf0 := HZ5.out.free 0
    have zc1 := HZ5.out.cell 1
    have zf1 := HZ5.out.free 1
    have zc2 := HZ5.out.cell 2
    have zf2 := HZ5.out.free 2
    have zc3 := HZ5.out.cell 3
    have zf3 := HZ5.out.free 3
    have zc4 := HZ5.out.cell 4
    have zf4 := HZ5.out.free 4
    have zc5 := HZ5.out.cell 5
    have zf5 := HZ5.out.free 5
    have zc6 := HZ5.out.cell 6
    have zf6 := HZ5.out.free 6
    simp only [List.getElem?_toArray, List.getElem?_cons_zero, List.getElem?_cons_succ] at zc0 zc1 zc2 zc3 zc4 zc5 zc6
    have yc0 := HM5.out.cell 0
    have yc1 := HM5.out.cell 1
    have yc2 := HM5.out.cell 2
    have yc3 := HM5.out.cell 3
    have yc4 := HM5.out.cell 4
    have yc5 := HM5.out.cell 5
    have yc6 := HM5.out.cell 6
    simp only [List.getElem?_toArray, List.getElem?_cons_zero, List.getElem?_cons_succ] at yc0 yc1 yc2 yc3 yc4 yc5 yc6
    go_wp2_with (fail)
    obtain ⟨W, hW, hwh, hwt⟩ := store7 HZ5.out (.int .i64 ro.kind) (.string ⟨ro.key.toArray⟩) (.int .i64 ro.id) (.int .i64 ro.no) (.int .i64 ro.size) (.slice LA ln lc) (.slice BA bn bc)
    rw [hW]
    have hlt := HZ.out.lt
    have hbW := hwt.below (by have := HZ5.out.lt; omega)
    clear hW
    refine bodyPost_ret (results_row_tmp rfl _ _ w.heap.size _ _ _ _ _ _ _ _ (.int .i64 0) rfl rfl hwh) rfl ?_
    exact ⟨LA, ln, lc, BA, bn, bc, rfl, (HR5.out.turn hwt hlt).inn, Below.trans HG5.out hbW⟩
end
end Go.Proofs.Ytdkpbphgaenlnaa

/-
  A disk with segments does not grow too great; what the head of law 09 asks of segment 7.
-/
namespace Go.Proofs.Ytdkpbphgaenlnaa
open Go.RowKit Go.Maps Go.WideMaps
set_option linter.unusedVariables false
set_option linter.unusedSimpArgs false

section
variable {K : Nat} {m : Dk}
theorem DkOk.make (h : DkOk K m) (n : Int) : DkOk (K + 8202) (makeP m n).1 := by
  have h1 := h.create (nmS n)
  have h2 := (h1.append (nmS n) (putB (firstS n))).mono (show K + 1 + (putB (firstS n)).length ≤ K + 8201 by have := putB_small (b := firstS n); omega)
  unfold makeP
  split
  · split
    · exact h2.mono (by omega)
    · exact h2.remove _
  · exact h1.mono (by omega)
theorem DkOk.added (h : DkOk K m) (n : Int) (r : Rc) : DkOk (K + (frS r).length) (addP m n r).1 := by
  unfold addP
  split
  · split <;> exact h.append _ _
  · exact h.mono (by omega)
theorem frS_small (r : Rc) : (frS r).length ≤ 8200 := putB_small
end

def recT : Rc := ⟨4, [97, 98], 0, 0, 0, [], []⟩
namespace Hs
def M0 : Dk := Dk.new 1000
theorem M0ok : DkOk 0 M0 := DkOk.new 1000
def M1 : Dk := (makeP M0 7).1
theorem M1ok : DkOk 8202 M1 := (M0ok.make 7).mono (by omega)
def M2 : Dk := (makeP M1 7).1
theorem M2ok : DkOk 16404 M2 := (M1ok.make 7).mono (by omega)
def M3 : Dk := (addP M2 7 recT).1
theorem M3ok : DkOk 24604 M3 := (M2ok.added 7 recT).mono (by have := frS_small recT; omega)
def M4 : Dk := (addP M3 7 Rc.none).1
theorem M4ok : DkOk 32804 M4 := (M3ok.added 7 Rc.none).mono (by have := frS_small Rc.none; omega)
theorem made0 : (makeP M0 7).2 = 0 := by kernel_rfl
theorem made1 : (makeP M1 7).2 = 4 := by kernel_rfl
theorem added2 : (addP M2 7 recT).2 = (13, 11, 0) := by kernel_rfl
theorem got3 : getP M3 7 13 = (recT, 0) := by kernel_rfl
theorem got3b : (getP M3 7 24).2 = 1 := by kernel_rfl
theorem got3c : (getP M3 8 0).2 = 3 := by kernel_rfl
theorem added3 : (addP M3 7 Rc.none).2 = (0, 0, 1) := by kernel_rfl
theorem all4 : segAllP M4 7 = ([(13, 11, recT)], 0, 0) := by kernel_rfl
theorem size4 : (M4.size (nmS 7)).1 = 24 := by kernel_rfl
end Hs
end Go.Proofs.Ytdkpbphgaenlnaa

/-
  Segments on a disk with which nothing goes wrong: what stands in them.
-/
namespace Go.Proofs.Ytdkpbphgaenlnaa
open Go.RowKit
set_option linter.unusedVariables false
set_option linter.unusedSimpArgs false

/-- What is found of right records, one behind the other. -/
def foundL : List Rc → Nat → List Fn
  | [], _ => []
  | r :: rs, a => (a, (frS r).length, r) :: foundL rs (a + (frS r).length)
theorem foundL_length : ∀ (rs : List Rc) (a : Nat), (foundL rs a).length = rs.length
  | [], _ => rfl
  | r :: rs, a => by rw [foundL, List.length_cons, List.length_cons, foundL_length rs]
def bytesL (rs : List Rc) : List UInt8 := putL (rs.map putR)
theorem foundL_snoc : ∀ (rs : List Rc) (r : Rc) (a : Nat), foundL (rs ++ [r]) a = foundL rs a ++ [(a + (bytesL rs).length, (frS r).length, r)]
  | [], r, a => by simp [foundL, bytesL, putL]
  | x :: rs, r, a => by
    rw [List.cons_append, foundL, foundL, foundL_snoc rs, List.cons_append]
    have e : (bytesL (x :: rs)).length = (frS x).length + (bytesL rs).length := by
      show (putB (putR x) ++ putL (rs.map putR)).length = _
      rw [List.length_append]
      rfl
    rw [e, Nat.add_assoc]
theorem good_put {r : Rc} (h : RightR r) : Good (putR r) := put_body h
theorem frS_right {r : Rc} (h : RightR r) : frS r = frameB (putR r) := putB_good (good_put h)
theorem its_found : ∀ (rs : List Rc) (a : Nat), (∀ r ∈ rs, RightR r) → fnsP (itsL (rs.map putR) a) = foundL rs a ∧ badP (itsL (rs.map putR) a) = 0
  | [], a, _ => ⟨rfl, rfl⟩
  | r :: rs, a, h => by
    have hr := h r (List.mem_cons_self ..)
    obtain ⟨h1, h2⟩ := its_found rs (a + ((putR r).length + 8)) fun x hx => h x (List.mem_cons_of_mem _ hx)
    have hg := get_put hr
    rw [List.map_cons, itsL, if_pos (good_put hr)]
    have hlen : (frS r).length = (putR r).length + 8 := by rw [frS_right hr, frameB_length]
    constructor
    · unfold fnsP at h1 ⊢
      rw [List.filter_cons, if_pos (by rw [hg]; rfl), List.map_cons, h1, foundL, hlen]
      congr 2
      unfold rcOf
      rw [hg]
      rfl
    · unfold badP at h2 ⊢
      rw [List.filter_cons, if_neg (by rw [hg]; simp), h2]
/-- All of a segment's bytes. -/
def segB (n : Int) (rs : List Rc) : List UInt8 := putL (firstS n :: rs.map putR)
theorem good_first (n : Int) : Good (firstS n) := by unfold Good; rw [firstS_length]; omega
theorem segB_length (n : Int) (rs : List Rc) : (segB n rs).length = 13 + (bytesL rs).length := by
  unfold segB bytesL
  rw [putL, List.length_append, putB_good (good_first n), frameB_length, firstS_length]
theorem segB_snoc (n : Int) (rs : List Rc) (r : Rc) : segB n (rs ++ [r]) = segB n rs ++ frS r := by
  unfold segB
  rw [List.map_append, ← List.cons_append, putL_append]
  rw [List.map_cons, List.map_nil]
  show _ ++ (putB (putR r) ++ []) = _
  rw [List.append_nil]
  rfl
theorem begins_first (n : Int) (ts : List It) : beginsP ((0, 13, firstS n) :: ts) n = true := by
  show (decide ((0 : Nat) = 0) && decide (firstS n = firstS n)) = true
  rw [decide_eq_true (p := firstS n = firstS n) rfl]
  rfl
/-- All is well, and so much is used. -/
structure SgW (m : Dk) (U : Nat) : Prop where
  well : Well m
  most : m.most = 16777216
  used : m.used = (U : Int)
/-- A segment's file, and its records. -/
structure Sg (m : Dk) (n : Int) (f : Nat) (rs : List Rc) : Prop where
  find : Dir.find (nmS n) m.names = some f
  bytes : (m.files f).bytes = segB n rs
  right : ∀ r ∈ rs, RightR r
section
variable {m : Dk} {U : Nat} {n : Int} {f : Nat} {rs : List Rc}
theorem Sg.size (h : Sg m n f rs) : m.size (nmS n) = (((segB n rs).length : Int), true) := by rw [size_some h.find, h.bytes]
theorem segAll_of {bs : List UInt8} {ts : List It} {bad : Nat} {x : Nat × Nat} (h : m.read (nmS n) 0 (m.size (nmS n)).1 = (some bs, 0)) (ha : allB bs 0 = (ts, bad, x)) (hb : beginsP ts n = true) : segAllP m n = (fnsP (ts.drop 1), ((bad + badP (ts.drop 1) : Nat) : Int), 0) := by
  unfold segAllP
  rw [h]
  show (if (0 : Int) = 0 then (if beginsP (allB bs 0).1 n = true then (fnsP ((allB bs 0).1.drop 1), (((allB bs 0).2.1 + badP ((allB bs 0).1.drop 1) : Nat) : Int), 0) else ([], 0, 22)) else ([], 0, 0)) = _
  rw [if_pos rfl, ha]
  show (if beginsP ts n = true then (fnsP (ts.drop 1), ((bad + badP (ts.drop 1) : Nat) : Int), 0) else ([], 0, 22)) = _
  rw [if_pos hb]
theorem Sg.all (hw : SgW m U) (h : Sg m n f rs) : segAllP m n = (foundL rs 13, 0, 0) := by
  have hr := hw.well.read h.find (x := 0) (k := (segB n rs).length) (by rw [h.bytes]; omega)
  rw [h.bytes, List.drop_zero, List.take_length] at hr
  have ha : allB (segB n rs) 0 = ((0, 13, firstS n) :: itsL (rs.map putR) 13, 0, (segB n rs).length, 0) := by
    unfold segB
    rw [all_put0, itsL, if_pos (good_first n), firstS_length]
  obtain ⟨h1, h2⟩ := its_found rs 13 h.right
  rw [segAll_of (by rw [h.size]; exact hr) ha (begins_first n _), List.drop_succ_cons, List.drop_zero, h1, h2]
  rfl
theorem add_ill (m : Dk) (n : Int) {r : Rc} (hr : ¬ RightR r) : addP m n r = (m, (0, 0, 1)) := by unfold addP; rw [if_neg hr]
theorem Sg.add (hw : SgW m U) (h : Sg m n f rs) {r : Rc} (hr : RightR r) (hU : U + (frS r).length ≤ 16777216) :
    addP m n r = ((m.doAppend f (frS r)).bump, (((segB n rs).length : Int), ((frS r).length : Int), 0)) := by
  have ha := hw.well.append h.find (b := frS r) (by rw [hw.used, hw.most, IntWalk.wrap64_in _ (by omega)]; omega)
  unfold addP
  rw [if_pos hr, ha, h.size]
  dsimp only
  rw [if_pos rfl]
theorem SgW.add (hw : SgW m U) (f : Nat) {r : Rc} (hU : U + (frS r).length ≤ 16777216) : SgW (m.doAppend f (frS r)).bump (U + (frS r).length) :=
  ⟨app_well _ _ hw.well, hw.most, by rw [app_used, hw.used, IntWalk.wrap64_in _ (by omega)]; omega⟩
theorem Sg.added (h : Sg m n f rs) {r : Rc} (hr : RightR r) : Sg (m.doAppend f (frS r)).bump n f (rs ++ [r]) :=
  ⟨h.find, by rw [app_bytes, h.bytes, segB_snoc], fun x hx => by
    rcases List.mem_append.1 hx with hx | hx
    · exact h.right x hx
    · rw [List.mem_singleton.1 hx]; exact hr⟩
theorem Sg.other (h : Sg m n f rs) {g : Nat} (hf : f ≠ g) (b : List UInt8) : Sg (m.doAppend g b).bump n f rs :=
  ⟨h.find, by rw [app_other _ _ _ hf, h.bytes], h.right⟩
end
/-- Those that are right. -/
def rightL (l : List Rc) : List Rc := l.filter fun r => decide (RightR r)
theorem rightL_right {l : List Rc} : ∀ r ∈ rightL l, RightR r := fun r hr => by simpa using (List.mem_filter.1 hr).2
theorem rightL_snoc (l : List Rc) (r : Rc) : rightL (l ++ [r]) = rightL l ++ if RightR r then [r] else [] := by
  unfold rightL
  rw [List.filter_append]
  by_cases h : RightR r <;> simp [h]
theorem rightL_length (l : List Rc) : (rightL l).length ≤ l.length := List.length_filter_le _ _

theorem neg_one {x : Int} (h : x = -1) : x < 0 := by omega
/-- Segments 1 and 2, made on a new disk. -/
def A0 : Dk := Dk.new 16777216
def A1 : Dk := (makeP A0 1).1
def A2 : Dk := (makeP A1 2).1
theorem A2w : SgW A2 26 := ⟨⟨by kernel_rfl, neg_one (show A2.cut = -1 by kernel_rfl), neg_one (show A2.fail = -1 by kernel_rfl)⟩, by kernel_rfl, by kernel_rfl⟩
theorem A2one : Sg A2 1 0 [] := ⟨by kernel_rfl, by kernel_rfl, fun r hr => by cases hr⟩
theorem A2two : Sg A2 2 1 [] := ⟨by kernel_rfl, by kernel_rfl, fun r hr => by cases hr⟩
theorem A1w : SgW A1 13 := ⟨⟨by kernel_rfl, neg_one (show A1.cut = -1 by kernel_rfl), neg_one (show A1.fail = -1 by kernel_rfl)⟩, by kernel_rfl, by kernel_rfl⟩
theorem A1one : Sg A1 1 0 [] := ⟨by kernel_rfl, by kernel_rfl, fun r hr => by cases hr⟩
theorem A1made : (makeP A0 1).2 = 0 := by kernel_rfl
theorem A0ok : DkOk 0 A0 := DkOk.new 16777216
theorem A1ok : DkOk 8202 A1 := (A0ok.make 1).mono (by omega)
theorem A2ok : DkOk 16404 A2 := (A1ok.make 2).mono (by omega)
/-- It stays where only other blocks are written. -/
theorem FnOwn.same {b : Nat} {w w' : World} {A : Option Addr} {n c : Nat} {l : List (Fn × Fh)} (h : FnOwn b w A n c l) (hs : ∀ k, b ≤ k → k < w.heap.size → w'.heap[k]? = w.heap[k]?) : FnOwn b w' A n c l :=
  ⟨h.len, row_same h.own fun k hk => hs k (h.own.lt k hk).1 (h.own.lt k hk).2, fun p hp => ⟨row_same (h.recs p hp).locs fun k hk => hs k ((h.recs p hp).locs.lt k hk).1 ((h.recs p hp).locs.lt k hk).2, (h.recs p hp).len, row_same (h.recs p hp).b fun k hk => hs k ((h.recs p hp).b.lt k hk).1 ((h.recs p hp).b.lt k hk).2⟩⟩
end Go.Proofs.Ytdkpbphgaenlnaa

/-
  Two segments of one disk, to which records are added.
-/
namespace Go.Proofs.Ytdkpbphgaenlnaa
open Go.RowKit
set_option linter.unusedVariables false
set_option linter.unusedSimpArgs false

theorem A2small : DkOk 100 A2 := by
  have c : A2.cut = -1 := by kernel_rfl
  have f : A2.fail = -1 := by kernel_rfl
  refine ⟨by omega, by omega, ?_, ?_, ?_, fun i hi => ?_⟩
  · rw [show A2.made = 2 by kernel_rfl]; omega
  · rw [show A2.kept.length = 0 by kernel_rfl, show A2.pend.length = 2 by kernel_rfl]; omega
  · rw [show A2.names.length = 2 by kernel_rfl]; omega
  · rw [show A2.made = 2 by kernel_rfl] at hi
    match i, hi with
    | 0, _ =>
      rw [show (A2.files 0).bytes.length = 13 by kernel_rfl, show (A2.files 0).kept = 0 by kernel_rfl]
      omega
    | 1, _ =>
      rw [show (A2.files 1).bytes.length = 13 by kernel_rfl, show (A2.files 1).kept = 0 by kernel_rfl]
      omega
/-- Records a stand in segment 1, b in segment 2; so many were added at most. -/
structure SI (m : Dk) (a b : List Rc) (k : Nat) : Prop where
  w : ∃ U, SgW m U ∧ U ≤ 26 + 8200 * k
  one : Sg m 1 0 a
  two : Sg m 2 1 b
  ok : DkOk (100 + 8200 * k) m
theorem SI.start : SI A2 [] [] 0 := ⟨⟨26, A2w, by omega⟩, A2one, A2two, A2small.mono (by omega)⟩
section
variable {m : Dk} {a b : List Rc} {k : Nat}
theorem SI.add1 (h : SI m a b k) (hk : k ≤ 200) (r : Rc) : SI (addP m 1 r).1 (a ++ if RightR r then [r] else []) b (k + 1) := by
  obtain ⟨U, hw, hU⟩ := h.w
  have hok := (h.ok.added 1 r).mono (show 100 + 8200 * k + (frS r).length ≤ 100 + 8200 * (k + 1) by have := frS_small r; omega)
  have hs := frS_small r
  by_cases hr : RightR r
  · rw [if_pos hr]
    have e := h.one.add hw hr (by omega)
    rw [e] at hok ⊢
    exact ⟨⟨U + (frS r).length, hw.add 0 (by omega), by omega⟩, h.one.added hr, h.two.other (by omega) _, hok⟩
  · rw [if_neg hr, List.append_nil]
    rw [add_ill m 1 hr] at hok ⊢
    exact ⟨⟨U, hw, by omega⟩, h.one, h.two, hok⟩
theorem SI.add2 (h : SI m a b k) (hk : k ≤ 200) (r : Rc) : SI (addP m 2 r).1 a (b ++ if RightR r then [r] else []) (k + 1) := by
  obtain ⟨U, hw, hU⟩ := h.w
  have hok := (h.ok.added 2 r).mono (show 100 + 8200 * k + (frS r).length ≤ 100 + 8200 * (k + 1) by have := frS_small r; omega)
  have hs := frS_small r
  by_cases hr : RightR r
  · rw [if_pos hr]
    have e := h.two.add hw hr (by omega)
    rw [e] at hok ⊢
    exact ⟨⟨U + (frS r).length, hw.add 1 (by omega), by omega⟩, h.one.other (by omega) _, h.two.added hr, hok⟩
  · rw [if_neg hr, List.append_nil]
    rw [add_ill m 2 hr] at hok ⊢
    exact ⟨⟨U, hw, by omega⟩, h.one, h.two, hok⟩
theorem SI.all (h : SI m a b k) : segAllP m 1 = (foundL a 13, 0, 0) := by
  obtain ⟨U, hw, hU⟩ := h.w
  exact h.one.all hw
end
theorem rightL_take {l : List Rc} {j : Nat} {r : Rc} (h : l[j]? = some r) : rightL (l.take (j + 1)) = rightL (l.take j) ++ if RightR r then [r] else [] := by
  rw [List.take_add_one, h]
  exact rightL_snoc _ _
end Go.Proofs.Ytdkpbphgaenlnaa

/-
  The walk of souterrainlaw09.head: it is true, and writes nothing that was there.
-/
namespace Go.Proofs.Ytdkpbphgaenlnaa
open Go.RowKit Go.Maps Go.WideMaps
set_option linter.unusedVariables false
set_option linter.unusedSimpArgs false
open Hs

theorem nmS_neg : nmS (-1) = [] := by kernel_rfl
set_option maxRecDepth 100000 in
theorem segMake_neg (w : World) (d : Nat) : Calls Try.prog 30 #[.pointer (some ⟨d, 0, none⟩), .int .i64 (-1)] w fun e w' => e = .returned (.int .i64 1) ∧ Grows w w' := by
  have HO := Lib.hid (segOf_any w d (-1))
  unfold segV at HO
  rw [nmS_neg] at HO
  go_enter Try.func30, Try.ntmps30
  go_wp2_with (fail)
  refine HO.out.mono ?_
  rintro e w1 ⟨rfl, hg1⟩
  have hwm := Whole.made w1 107 #[.pointer (some ⟨d, 0, none⟩), .int .i64 (-1), .string ⟨#[]⟩]
  have HG := Lib.hid (Grows.trans hg1 (grows_alloc w1 (.cells #[.pointer (some ⟨d, 0, none⟩), .int .i64 (-1), .string ⟨#[]⟩] 107)))
  have c0 := hwm.cell 0
  have c2 := hwm.cell 2
  simp only [List.getElem?_toArray, List.getElem?_cons_zero, List.getElem?_cons_succ] at c0 c2
  clear hwm hg1
  go_wp2_with (fail)
  go_ret
  exact ⟨rfl, HG.out⟩

theorem rc_empty {w : World} {LA : Option Addr} {ln lc : Nat} {BA : Option Addr} {bn bc : Nat} {r : Rc} (h : RcIn w LA ln lc BA bn bc r) (w' : World) (h1 : r.locs = []) (h2 : r.b = []) : RcIn w' LA ln lc BA bn bc r := by
  obtain ⟨hl, hs⟩ := h
  rw [h1] at hl
  rw [h2] at hs
  refine ⟨?_, ?_⟩
  · rw [h1]
    exact ⟨hl.len, hl.cap, hl.bare, ⟨hl.row.len, fun k v hk => by cases k <;> cases hk⟩⟩
  · rw [h2]
    exact ⟨⟨hs.bytes.len, fun k v hk => by cases k <;> cases hk⟩, hs.cap, hs.bare⟩
def rcVal (x : Rc) (LA : Option Addr) (ln lc : Nat) (BA : Option Addr) (bn bc : Nat) : Array Value := #[.int .i64 x.kind, .string ⟨x.key.toArray⟩, .int .i64 x.id, .int .i64 x.no, .int .i64 x.size, .slice LA ln lc, .slice BA bn bc]

set_option maxHeartbeats 16000000 in
set_option maxRecDepth 100000 in
theorem head9_any (w : World) : Calls Try.prog 29 #[] w fun e w' => e = .returned (.bool true) ∧ Below w.heap.size w w' := by
  go_enter Try.func29, Try.ntmps29
  go_wp2_with (fail)
  refine (new_any w 1000).mono ?_
  rintro e w1 ⟨d, rfl, hn⟩
  have HD := Lib.hid (show DkIn w.heap.size w w1 d (fun _ => False) M0 from DkIn.new hn (Nat.le_refl _) (Below.refl _ _) (fun k h => h.elim))
  clear hn
  go_wp2_with (fail)
  have h1 := segMake_any w1 7 (by omega) HD.out M0ok (by omega)
  rw [made0] at h1
  refine h1.mono ?_
  clear h1
  rintro e w2 ⟨rfl, hd, hs⟩
  have HD2 := Lib.hid (show DkIn w.heap.size w w2 d (fun _ => False) M1 from hd)
  clear hd hs HD
  go_wp2_with (fail)
  have h1 := segMake_any w2 7 (by omega) HD2.out M1ok (by omega)
  rw [made1] at h1
  refine h1.mono ?_
  clear h1
  rintro e w3 ⟨rfl, hd, hs⟩
  have HD3 := Lib.hid (show DkIn w.heap.size w w3 d (fun _ => False) M2 from hd)
  clear hd hs HD2
  go_wp2_with (fail)
  have h1 := segAdd_any w3 7 recT (LA := none) (ln := 0) (lc := 0) (BA := none) (bn := 0) (bc := 0) ⟨Locs.nil _, Sl.nil _⟩ HD3.out M2ok (by omega)
  rw [added2] at h1
  refine h1.mono ?_
  clear h1
  rintro e w4 ⟨rfl, hd, hs⟩
  have HD4 := Lib.hid (show DkIn w.heap.size w w4 d (fun _ => False) M3 from hd)
  clear hd hs HD3
  go_wp2_with (fail)
  have h1 := segGet_any w4 7 13 HD4.out M3ok (by omega) (by omega)
  rw [got3] at h1
  refine h1.mono ?_
  clear h1
  rintro e w5 ⟨LA, ln, lc, BA, bn, bc, rfl, hin, hg⟩
  have hx5 := Whole.made w5 59 (rcVal recT LA ln lc BA bn bc)
  have hu := grows_alloc w5 (.cells (rcVal recT LA ln lc BA bn bc) 59)
  have HX5 := Lib.hid hx5
  have HL5 := Lib.hid hin.locs.len
  have HI5 := Lib.hid (hin.grow hu)
  have HD5 := Lib.hid (And.intro (HD4.out.more (Grows.trans hg hu)) (show (fun k => False ∨ (w4.heap.size ≤ k ∧ k < (w5.alloc (.cells (rcVal recT LA ln lc BA bn bc) 59)).heap.size)) w5.heap.size from .inr ⟨hg.size, HX5.out.lt⟩))
  clear hx5 hin hg hu HD4
  unfold rcVal at HX5 HI5 HD5
  unfold rcV
  go_wp2_with (fail)
  obtain ⟨w6, hw6⟩ : ∃ w6, w5.alloc (.cells #[.int .i64 recT.kind, .string ⟨recT.key.toArray⟩, .int .i64 recT.id, .int .i64 recT.no, .int .i64 recT.size, .slice LA ln lc, .slice BA bn bc] 59) = w6 := ⟨_, rfl⟩
  rw [hw6] at HX5 HI5 HD5
  rw [hw6]
  clear hw6
  have h1 := segGet_any w6 7 24 HD5.out.1 M3ok (by omega) (by omega)
  obtain ⟨⟨y6, v6⟩, hy⟩ : ∃ q, getP M3 7 24 = q := ⟨_, rfl⟩
  have hv := got3b
  rw [hy] at h1 hv
  dsimp only at h1 hv
  subst hv
  clear hy
  refine h1.mono ?_
  clear h1
  rintro e w7 ⟨LA6, ln6, lc6, BA6, bn6, bc6, rfl, _, hg⟩
  have hu := Grows.trans hg (grows_alloc w7 (.cells #[.int .i64 y6.kind, .string ⟨y6.key.toArray⟩, .int .i64 y6.id, .int .i64 y6.no, .int .i64 y6.size, .slice LA6 ln6 lc6, .slice BA6 bn6 bc6] 59))
  have HX6 := Lib.hid (hu.whole HX5.out)
  have HI6 := Lib.hid (HI5.out.grow hu)
  have HO5 := Lib.hid HD5.out.2
  have HD6 := Lib.hid (HD5.out.1.grow hu)
  clear hg hu HX5 HI5 HD5
  unfold rcV
  go_wp2_with (fail)
  obtain ⟨w8, hw8⟩ : ∃ w8, w7.alloc (.cells #[.int .i64 y6.kind, .string ⟨y6.key.toArray⟩, .int .i64 y6.id, .int .i64 y6.no, .int .i64 y6.size, .slice LA6 ln6 lc6, .slice BA6 bn6 bc6] 59) = w8 := ⟨_, rfl⟩
  rw [hw8] at HX6 HI6 HD6
  rw [hw8]
  clear hw8
  have h1 := segGet_any w8 8 0 HD6.out M3ok (by omega) (by omega)
  obtain ⟨⟨y8, v8⟩, hy⟩ : ∃ q, getP M3 8 0 = q := ⟨_, rfl⟩
  have hv := got3c
  rw [hy] at h1 hv
  dsimp only at h1 hv
  subst hv
  clear hy
  refine h1.mono ?_
  clear h1
  rintro e w9 ⟨LA8, ln8, lc8, BA8, bn8, bc8, rfl, _, hg⟩
  have hu := Grows.trans hg (grows_alloc w9 (.cells #[.int .i64 y8.kind, .string ⟨y8.key.toArray⟩, .int .i64 y8.id, .int .i64 y8.no, .int .i64 y8.size, .slice LA8 ln8 lc8, .slice BA8 bn8 bc8] 59))
  have HX8 := Lib.hid (hu.whole HX6.out)
  have HI8 := Lib.hid (HI6.out.grow hu)
  have HD8 := Lib.hid (HD6.out.grow hu)
  clear hg hu HX6 HI6 HD6
  unfold rcV
  go_wp2_with (fail)
  obtain ⟨w10, hw10⟩ : ∃ w10, w9.alloc (.cells #[.int .i64 y8.kind, .string ⟨y8.key.toArray⟩, .int .i64 y8.id, .int .i64 y8.no, .int .i64 y8.size, .slice LA8 ln8 lc8, .slice BA8 bn8 bc8] 59) = w10 := ⟨_, rfl⟩
  rw [hw10] at HX8 HI8 HD8
  rw [hw10]
  clear hw10
  have h1 := segAdd_any w10 7 Rc.none (LA := none) (ln := 0) (lc := 0) (BA := none) (bn := 0) (bc := 0) ⟨Locs.nil _, Sl.nil _⟩ HD8.out M3ok (by omega)
  rw [added3] at h1
  refine h1.mono ?_
  clear h1
  rintro e w11 ⟨rfl, hd, hs⟩
  have HX11 := Lib.hid (hs.whole HX8.out HO5.out)
  have HD11 := Lib.hid (show DkIn w.heap.size w w11 d _ M4 from hd)
  have HI11 := Lib.hid (rc_empty HI8.out w11 rfl rfl)
  clear hd hs HX8 HD8 HI8
  go_wp2_with (fail)
  have h1 := segAll_any w11 7 (by omega) HD11.out M4ok (by omega)
  rw [all4] at h1
  refine h1.mono ?_
  clear h1
  rintro e w12 ⟨A, c, l, rfl, hf, hl, hg⟩
  have hl1 : l.length = 1 := by have := congrArg List.length hl; simpa using this
  match l, hl1 with
  | [p], _ =>
    have hp : p.1.1 = 13 := by
      simp only [List.map_cons, List.map_nil, List.cons.injEq, and_true] at hl
      rw [hl]
    obtain ⟨g, rfl, hlt, hc⟩ := hf.fnds.row.spot 0 p rfl
    have hc0 := hc 0 (by omega)
    rw [show (fnE p)[0]? = some (.int .i64 (p.1.1 : Nat)) from rfl, hp, Nat.zero_mul, Nat.zero_add] at hc0
    have HC0 := Lib.hid (And.intro hlt hc0)
    have HD12 := Lib.hid (HD11.out.grow hg)
    have HX12 := Lib.hid (hg.whole HX11.out)
    have HI12 := Lib.hid (HI11.out.grow hg)
    clear hf hl hl1 hp hlt hc hc0 hg HX11 HI11 HD11
    have hx := HX12.out
    have x0 := hx.cell 0
    have x1 := hx.cell 1
    have x2 := hx.cell 2
    have x3 := hx.cell 3
    have x4 := hx.cell 4
    have x5 := hx.cell 5
    have x6 := hx.cell 6
    simp only [List.getElem?_toArray, List.getElem?_cons_zero, List.getElem?_cons_succ] at x0 x1 x2 x3 x4 x5 x6
    clear hx
    have hsame := same_any recT recT LA ln lc BA bn bc none 0 0 none 0 0 w12 HI12.out ⟨Locs.nil _, Sl.nil _⟩ (by have := HL5.out; simp [recT] at this; omega)
    rw [decide_eq_true rfl] at hsame
    have HSAME := Lib.hid hsame
    clear hsame
    go_wp2_with (fail)
    refine HSAME.out.mono ?_
    rintro e w13 ⟨rfl, hg⟩
    have hg13 : Grows w12 w13 := hg
    have c0 := (hg13.cell HC0.out.1).trans HC0.out.2
    have HD13 := Lib.hid (HD12.out.grow hg13)
    clear hg hg13 HSAME x0 x1 x2 x3 x4 x5 x6
    go_wp2_with (fail)
    refine (segSizeOf_any w13 7 HD13.out (show M4.size (nmS 7) = (24, true) by kernel_rfl)).mono ?_
    rintro e w14 ⟨rfl, hg⟩
    have HD14 := Lib.hid (HD13.out.grow hg)
    clear hg
    go_wp2_with (fail)
    refine (segMake_neg w14 d).mono ?_
    rintro e w15 ⟨rfl, hg⟩
    have HD15 := Lib.hid (HD14.out.grow hg)
    clear hg
    go_wp2_with (fail)
    go_ret
    exact ⟨rfl, HD15.out.low⟩
end Go.Proofs.Ytdkpbphgaenlnaa
