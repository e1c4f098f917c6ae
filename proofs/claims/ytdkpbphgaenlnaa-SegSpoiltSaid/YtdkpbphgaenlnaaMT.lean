/-
  Texts that the statements' proofs lean on, one behind the other.
-/
import Derived.Test.YtdkpbphgaenlnaaMR
import Derived.Test.YtdkpbphgaenlnaaMS
import Derived.Test.YtdkpbphgaenlnaaMX
import Derived.Test.YtdkpbphgaenlnaaAppAt
import Derived.Test.YtdkpbphgaenlnaaMP
/-
  Frames one behind the other of which one has turned within 32 bits behind its length. No program in sight.
-/
namespace Go.Proofs.Ytdkpbphgaenlnaa

theorem flipB_behind (x y : List UInt8) (p : Nat) (h : 8 * x.length ≤ p) : flipB (x ++ y) p = x ++ flipB y (p - 8 * x.length) := by
  unfold flipB
  have h1 : x.length ≤ p / 8 := by omega
  have h2 : (p - 8 * x.length) / 8 = p / 8 - x.length := by omega
  have h3 : (p - 8 * x.length) % 8 = p % 8 := by omega
  rw [List.set_append_right _ _ h1, h2, h3]
  congr 2
  simp only [List.getD_eq_getElem?_getD, List.getElem?_append_right h1]
theorem burstB_behind (x y : List UInt8) (k v : Nat) (h : 8 * x.length ≤ k) : ∀ i, burstB (x ++ y) k v i = x ++ burstB y (k - 8 * x.length) v i
  | 0 => rfl
  | i + 1 => by
    simp only [burstB]
    rw [burstB_behind x y k v h i]
    split
    · rw [flipB_behind _ _ _ (by omega), show k + i - 8 * x.length = k - 8 * x.length + i by omega]
    · rfl
theorem spoil_row : ∀ (l : List (List UInt8)) (a i : Nat) (t : Nat × Nat × List UInt8), (itsL l a)[i]? = some t → ∀ (K v : Nat), 8 * (t.1 - a + 4) ≤ K → K + 32 ≤ 8 * (t.1 - a + t.2.1) → v < 4294967296 → v ≠ 0 →
    allB (burstB (putL l) K v 32) a = ((itsL l a).take i ++ (itsL l a).drop (i + 1), 1, a + (putL l).length, 0)
  | [], _, _, _, h => by simp [itsL] at h
  | b :: l, a, i, t, h => by
    intro K v h1 h2 hv hv0
    rw [itsL] at h ⊢
    rw [putL]
    by_cases hb : Good b
    · rw [if_pos hb] at h ⊢
      rw [putB_good hb]
      cases i with
      | zero =>
        simp only [List.getElem?_cons_zero, Option.some.injEq] at h
        subst h
        dsimp only at h1 h2
        have hf := spoilt_told b (putL l) hb.1 hb.2 K v (by omega) (by omega) hv hv0
        have hne : burstB (frameB b ++ putL l) K v 32 ≠ [] := fun h => by
          have := congrArg List.length h
          rw [burstB_length, List.length_append, frameB_length] at this
          simp at this
        have hrest : (burstB (frameB b ++ putL l) K v 32).drop (b.length + 8) = putL l := by
          rw [burstB_append _ _ _ _ _ (by rw [frameB_length]; omega), List.drop_left' (by rw [burstB_length, frameB_length])]
        rw [allB_bad hne hf (by omega) (by omega), hrest]
        have := all_put l [] (a + (b.length + 8))
        rw [List.append_nil, allB_nil, List.append_nil] at this
        rw [this, List.length_append, frameB_length, Nat.add_assoc]
        rfl
      | succ i =>
        rw [List.getElem?_cons_succ] at h
        have hsz := itsL_sizes l _ t (List.mem_of_getElem? h)
        rw [burstB_behind _ _ _ _ (by rw [frameB_length]; omega), frameB_length, allB_got (frame_ne b _) (first_back b _ hb.1 hb.2), List.drop_left' (frameB_length b),
          spoil_row l (a + (b.length + 8)) i t h (K - 8 * (b.length + 8)) v (by omega) (by omega) hv hv0, List.length_append, frameB_length, Nat.add_assoc]
        rfl
    · rw [if_neg hb] at h ⊢
      rw [putB_ill hb, List.nil_append]
      exact spoil_row l a i t h K v h1 h2 hv hv0
end Go.Proofs.Ytdkpbphgaenlnaa

/-
  A turn within 32 bits, told bit by bit and told by bytes: the same. And a segment of which one record has turned: all others are as they were.
-/
namespace Go.Proofs.Ytdkpbphgaenlnaa
open Go.RowKit
set_option linter.unusedVariables false
set_option linter.unusedSimpArgs false

theorem burst_bits (bs : List UInt8) (K v : Nat) : ∀ i, K + i ≤ 8 * bs.length → burstB bs K v i = rflipB v K i bs
  | 0, _ => (rflipB_zero v K bs).symm
  | i + 1, h => by
    rw [burstB, burst_bits bs K v i (by omega)]
    by_cases hb : v / 2 ^ i % 2 = 1
    · rw [if_pos hb, rflipB_one hb rfl (by omega)]
      rfl
    · rw [if_neg hb, rflipB_none hb]
theorem burst_flip {bs : List UInt8} {K v : Nat} (hK : K + 32 ≤ 8 * bs.length) (hv : v < 4294967296) : flipT (v * 2 ^ (K % 8)) (K / 8) bs = burstB bs K v 32 := by
  rw [burst_bits bs K v 32 hK, rflipB_all hv]
theorem its_some : ∀ (rs : List Rc) (a : Nat), (∀ r ∈ rs, RightR r) → ∀ t ∈ itsL (rs.map putR) a, (getR t.2.2).isSome = true
  | [], _, _, t, ht => by cases ht
  | r :: rs, a, h, t, ht => by
    have hr := h r (List.mem_cons_self ..)
    rw [List.map_cons, itsL, if_pos (good_put hr)] at ht
    rcases List.mem_cons.1 ht with rfl | ht
    · show (getR (putR r)).isSome = true
      rw [get_put hr]
      rfl
    · exact its_some rs _ (fun x hx => h x (List.mem_cons_of_mem _ hx)) t ht
theorem fnsP_all {ts : List It} (h : ∀ t ∈ ts, (getR t.2.2).isSome = true) : fnsP ts = ts.map (fun t => (t.1, t.2.1, rcOf t.2.2)) ∧ badP ts = 0 := by
  constructor
  · unfold fnsP
    rw [List.filter_eq_self.2 h]
  · unfold badP
    rw [List.filter_eq_nil_iff.2 fun t ht => by rw [h t ht]; decide]
    rfl
/-- All of a segment of which record i has turned. -/
theorem segAll_spoilt {m : Dk} {n : Int} {rs : List Rc} {i K v : Nat} {r : Rc} (hr : ∀ r ∈ rs, RightR r) (hi : rs[i]? = some r) (h1 : 8 * (13 + (bytesL (rs.take i)).length + 4) ≤ K) (h2 : K + 32 ≤ 8 * (13 + (bytesL (rs.take i)).length + (frS r).length)) (hv : v < 4294967296) (hv0 : v ≠ 0)
    (hread : m.read (nmS n) 0 (m.size (nmS n)).1 = (some (burstB (segB n rs) K v 32), 0)) : segAllP m n = ((foundL rs 13).take i ++ (foundL rs 13).drop (i + 1), 1, 0) := by
  have hl : itsL (firstS n :: rs.map putR) 0 = (0, 13, firstS n) :: itsL (rs.map putR) 13 := by rw [itsL, if_pos (good_first n), firstS_length]
  have hat : (itsL (rs.map putR) 13)[i]? = some (13 + (bytesL (rs.take i)).length, (frS r).length, putR r) := by
    have key : ∀ (rs : List Rc) (a i : Nat), (∀ r ∈ rs, RightR r) → rs[i]? = some r → (itsL (rs.map putR) a)[i]? = some (a + (bytesL (rs.take i)).length, (frS r).length, putR r) := by
      intro rs
      induction rs with
      | nil => intro a i _ h; simp at h
      | cons x rs ih =>
        intro a i hr h
        have hx := hr x (List.mem_cons_self ..)
        rw [List.map_cons, itsL, if_pos (good_put hx)]
        cases i with
        | zero =>
          have e : x = r := by simpa using h
          subst e
          rw [List.getElem?_cons_zero, frS_right hx, frameB_length]
          rfl
        | succ i =>
          rw [List.getElem?_cons_succ, ih _ i (fun y hy => hr y (List.mem_cons_of_mem _ hy)) (by simpa using h)]
          have e : (bytesL ((x :: rs).take (i + 1))).length = (putR x).length + 8 + (bytesL (rs.take i)).length := by
            show (putB (putR x) ++ bytesL (rs.take i)).length = _
            rw [List.length_append, putB_good (good_put hx), frameB_length]
          rw [e, Nat.add_assoc a]
    exact key rs 13 i hr hi
  have hs := spoil_row (firstS n :: rs.map putR) 0 (i + 1) (13 + (bytesL (rs.take i)).length, (frS r).length, putR r) (by rw [hl, List.getElem?_cons_succ]; exact hat) K v (by dsimp only; omega) (by dsimp only; omega) hv hv0
  rw [hl, List.take_succ_cons, List.drop_succ_cons, List.cons_append] at hs
  have hsm := its_some rs 13 hr
  obtain ⟨e1, e2⟩ := fnsP_all (ts := (itsL (rs.map putR) 13).take i ++ (itsL (rs.map putR) 13).drop (i + 1)) fun t ht => by
    rcases List.mem_append.1 ht with ht | ht
    · exact hsm t (List.mem_of_mem_take ht)
    · exact hsm t (List.mem_of_mem_drop ht)
  have e3 : (itsL (rs.map putR) 13).map (fun t => (t.1, t.2.1, rcOf t.2.2)) = foundL rs 13 := by rw [← (fnsP_all hsm).1]; exact (its_found rs 13 hr).1
  rw [segAll_of hread hs (begins_first n _), List.drop_succ_cons, List.drop_zero, e1, e2, List.map_append, List.map_take, List.map_drop, e3]
  rfl
/-- The spoilt record itself. -/
theorem getP_spoilt {m : Dk} {n : Int} {x K v : Nat} {r : Rc} {us more : List UInt8} (hr : RightR r) (hu : us.length = x) (h1 : 8 * (x + 4) ≤ K) (h2 : K + 32 ≤ 8 * (x + (frS r).length)) (hv : v < 4294967296) (hv0 : v ≠ 0)
    (hread : ∀ a k, a + k ≤ (us ++ (frS r ++ more)).length → m.read (nmS n) (a : Nat) (k : Nat) = (some (((burstB (us ++ (frS r ++ more)) K v 32).drop a).take k), 0)) : (getP m n x).2 = 22 := by
  have hb := put_body hr
  have hf : (frS r).length = (putR r).length + 8 := by rw [frS_right hr, frameB_length]
  have e1 : burstB (us ++ (frS r ++ more)) K v 32 = us ++ (burstB (frS r) (K - 8 * x) v 32 ++ more) := by
    rw [burstB_behind _ _ _ _ (by omega), hu, burstB_append _ _ _ _ _ (by omega)]
  have hlen : (us ++ (frS r ++ more)).length = x + ((putR r).length + 8 + more.length) := by rw [List.length_append, List.length_append, hu, hf]
  have r4 := hread x 4 (by omega)
  have rf := hread x ((putR r).length + 8) (by omega)
  rw [e1, List.drop_left' hu] at r4 rf
  have hbl : (burstB (frS r) (K - 8 * x) v 32).length = (putR r).length + 8 := by rw [burstB_length, hf]
  rw [List.take_left' hbl] at rf
  have h4 : (burstB (frS r) (K - 8 * x) v 32 ++ more).take 4 = headB (putR r).length := by
    rw [List.take_append_of_le_length (by omega), ← frame_take2, ← frS_right hr]
    refine List.ext_getElem (by rw [List.length_take, List.length_take, burstB_length]) fun j g1 g2 => ?_
    rw [List.length_take] at g1
    have := burstB_low (frS r) (K - 8 * x) v 32 j (by omega)
    rw [List.getElem_take, List.getElem_take]
    rw [List.getD_eq_getElem?_getD, List.getD_eq_getElem?_getD, List.getElem?_eq_getElem (by omega), List.getElem?_eq_getElem (by omega)] at this
    exact this
  rw [h4] at r4
  have h21 : (firstB (headB (putR r).length)).2.2 = 21 := by
    have := first_short_cut (putR r) hb.1 hb.2 4 (by omega)
    rw [frame_take2] at this
    rw [this]
  have ht : toldN (headB (putR r).length) = (putR r).length := by
    have := told_head (putR r).length hb.2 []
    rwa [List.append_nil] at this
  have hs : sizeN ((putR r).length : Int) = (((putR r).length + 8 : Nat) : Int) := by
    unfold sizeN
    rw [if_pos (by omega)]
    omega
  have hfp : frameP m n x = (some (burstB (frS r) (K - 8 * x) v 32), 0) := by
    unfold frameP
    rw [show (4 : Int) = ((4 : Nat) : Int) from rfl, r4]
    simp only [Option.getD_some]
    rw [if_pos trivial, if_pos h21, ht, hs, rf]
    rfl
  have hsp := spoilt_told (putR r) [] hb.1 hb.2 (K - 8 * x) v (by omega) (by omega) hv hv0
  rw [List.append_nil, ← frS_right hr] at hsp
  unfold getP
  rw [hfp]
  simp only [Option.getD_some]
  rw [hsp]
  rfl
/-- Another one. -/
theorem getP_off {m : Dk} {n : Int} {K v : Nat} {r : Rc} {us bs : List Rc} (hr : RightR r) (hv : v < 4294967296) (hoff : 8 * (13 + (bytesL us).length + (frS r).length) ≤ K ∨ K + 32 ≤ 8 * (13 + (bytesL us).length))
    (hread : ∀ a k, a + k ≤ (segB n (us ++ r :: bs)).length → m.read (nmS n) (a : Nat) (k : Nat) = (some (((burstB (segB n (us ++ r :: bs)) K v 32).drop a).take k), 0)) : getP m n ((13 + (bytesL us).length : Nat) : Int) = (r, 0) := by
  have hseg : segB n (us ++ r :: bs) = segB n us ++ (frS r ++ bytesL bs) := by
    unfold segB bytesL frS
    rw [List.map_append, ← List.cons_append, putL_append, List.map_cons]
    rfl
  have hul := segB_length n us
  have hlen : (segB n (us ++ r :: bs)).length = 13 + (bytesL us).length + ((frS r).length + (bytesL bs).length) := by rw [hseg, List.length_append, List.length_append, hul]
  obtain ⟨more, hm⟩ : ∃ more, (burstB (segB n (us ++ r :: bs)) K v 32).drop (13 + (bytesL us).length) = frS r ++ more := by
    rcases hoff with ho | ho
    · refine ⟨burstB (bytesL bs) (K - 8 * (segB n us ++ frS r).length) v 32, ?_⟩
      rw [hseg, ← List.append_assoc, burstB_behind _ _ _ _ (by rw [List.length_append, hul]; exact ho), List.append_assoc, List.drop_left' hul]
    · refine ⟨bytesL bs, ?_⟩
      rw [hseg, burstB_append _ _ _ _ _ (by rw [hul]; exact ho), List.drop_left' (by rw [burstB_length, hul])]
  exact getP_at (bs := burstB (segB n (us ++ r :: bs)) K v 32) hr (fun a k hak => hread a k (by rw [burstB_length] at hak; exact hak)) hm (by rw [burstB_length]; omega)
/-- Segment 1, of which record i has turned. -/
structure SF (m : Dk) (a : List Rc) (K v : Nat) : Prop where
  size : m.size (nmS 1) = (((segB 1 a).length : Int), true)
  read : ∀ x k, x + k ≤ (segB 1 a).length → m.read (nmS 1) (x : Nat) (k : Nat) = (some (((burstB (segB 1 a) K v 32).drop x).take k), 0)
theorem SB.flipped {m : Dk} {a : List Rc} {k K v : Nat} (h : SB m 1 a k) (hK : K + 32 ≤ 8 * (segB 1 a).length) (hv : v < 4294967296) : (m.flip (nmS 1) (K : Nat) v).2 = true ∧ SF (m.flip (nmS 1) (K : Nat) v).1 a K v ∧ DkOk (8202 + 8200 * k) (m.flip (nmS 1) (K : Nat) v).1 := by
  obtain ⟨U, hw, hU⟩ := h.w
  have hb := h.sg.bytes
  have hf := h.sg.find
  have e : m.flip (nmS 1) (K : Nat) v = (m.setFile 0 ⟨flipT (v * 2 ^ (K % 8)) (K / 8) (m.files 0).bytes, (m.files 0).kept⟩, true) := by
    unfold Dk.flip
    rw [hf]
    dsimp only
    rw [if_neg (by rw [hb]; omega)]
    rfl
  rw [e, hb, burst_flip hK hv]
  have hby : ((m.setFile 0 ⟨burstB (segB 1 a) K v 32, (m.files 0).kept⟩).files 0).bytes = burstB (segB 1 a) K v 32 := by
    show (if 0 = 0 then _ else _ : Fl).bytes = _
    rw [if_pos rfl]
  refine ⟨rfl, ⟨?_, fun x k hx => ?_⟩, ⟨h.ok.cut, h.ok.fail, h.ok.made, h.ok.pend, h.ok.names, fun i hi => ?_⟩⟩
  · rw [size_some (show Dir.find (nmS 1) (m.setFile 0 _).names = some 0 from hf), hby, burstB_length]
  · have hw' : Well (m.setFile 0 ⟨burstB (segB 1 a) K v 32, (m.files 0).kept⟩) := ⟨hw.well.down, hw.well.cut, hw.well.fail⟩
    have := hw'.read (show Dir.find (nmS 1) (m.setFile 0 _).names = some 0 from hf) (x := x) (k := k) (by rw [hby, burstB_length]; exact hx)
    rw [hby] at this
    exact this
  · have h0 := h.ok.bytes i hi
    show (if i = 0 then (⟨burstB (segB 1 a) K v 32, (m.files 0).kept⟩ : Fl) else m.files i).bytes.length ≤ _ ∧ (if i = 0 then (⟨burstB (segB 1 a) K v 32, (m.files 0).kept⟩ : Fl) else m.files i).kept ≤ (if i = 0 then (⟨burstB (segB 1 a) K v 32, (m.files 0).kept⟩ : Fl) else m.files i).bytes.length
    by_cases e0 : i = 0
    · subst e0
      rw [if_pos rfl, burstB_length, ← hb]
      exact h0
    · rw [if_neg e0]
      exact h0
end Go.Proofs.Ytdkpbphgaenlnaa

/-
  A segment that is cut: the first ones of its records are there. And what a Boot leaves of a disk with one segment.
-/
namespace Go.Proofs.Ytdkpbphgaenlnaa
open Go.RowKit
set_option linter.unusedVariables false
set_option linter.unusedSimpArgs false

/-- Frames that are cut. -/
theorem torn_cut : ∀ (l : List (List UInt8)) (a m : Nat), m ≤ (putL l).length → ∃ K, K ≤ (itsL l a).length ∧ (∃ y, allB ((putL l).take m) a = ((itsL l a).take K, 0, y)) ∧
    ∀ j t, (itsL l a)[j]? = some t → (t.1 + t.2.1 ≤ a + m ↔ j < K)
  | [], a, m, h => by
    have hm : m = 0 := by simpa [putL] using h
    subst hm
    exact ⟨0, Nat.zero_le _, ⟨_, by simp [putL, itsL, allB_nil]; rfl⟩, fun j t ht => by simp [itsL] at ht⟩
  | b :: l, a, m, h => by
    rw [putL] at h ⊢
    rw [itsL]
    by_cases hb : Good b
    · rw [if_pos hb, putB_good hb] at *
      rw [List.length_append, frameB_length] at h
      by_cases hm : m < b.length + 8
      · rw [List.take_append_of_le_length (by rw [frameB_length]; omega)]
        have hj : ∀ j t, ((a, b.length + 8, b) :: itsL l (a + (b.length + 8)))[j]? = some t → (t.1 + t.2.1 ≤ a + m ↔ j < 0) := fun j t ht => by
          cases j with
          | zero => simp at ht; subst ht; dsimp only; omega
          | succ j =>
            rw [List.getElem?_cons_succ] at ht
            have := itsL_sizes l _ t (List.mem_of_getElem? ht)
            omega
        rcases Nat.eq_zero_or_pos m with h0 | h0
        · subst h0
          exact ⟨0, Nat.zero_le _, ⟨_, by simp only [List.take_zero]; exact allB_nil a⟩, hj⟩
        · have hne : (frameB b).take m ≠ [] := fun h => by
            have := congrArg List.length h
            rw [List.length_take, frameB_length] at this
            simp at this
            omega
          refine ⟨0, Nat.zero_le _, ⟨(a, 21), ?_⟩, hj⟩
          rw [allB_stop hne (first_short_cut b hb.1 hb.2 m hm) (by omega)]
          rfl
      · obtain ⟨K, h1, ⟨y, h2⟩, h3⟩ := torn_cut l (a + (b.length + 8)) (m - (b.length + 8)) (by omega)
        rw [show a + (b.length + 8) + (m - (b.length + 8)) = a + m by omega] at h3
        refine ⟨K + 1, by rw [List.length_cons]; omega, ⟨y, ?_⟩, fun j t ht => ?_⟩
        · rw [List.take_append, frameB_length, List.take_of_length_le (by rw [frameB_length]; omega), allB_got (frame_ne b _) (first_back b _ hb.1 hb.2), List.drop_left' (frameB_length b), h2]
          rfl
        · cases j with
          | zero => simp at ht; subst ht; dsimp only; omega
          | succ j =>
            rw [List.getElem?_cons_succ] at ht
            have := h3 j t ht
            omega
    · rw [if_neg hb, putB_ill hb, List.nil_append] at *
      exact torn_cut l a m h
theorem its_take : ∀ (rs : List Rc) (a K : Nat), (∀ r ∈ rs, RightR r) → (itsL (rs.map putR) a).take K = itsL ((rs.take K).map putR) a
  | [], a, K, _ => by simp [itsL]
  | r :: rs, a, 0, _ => by simp [itsL]
  | r :: rs, a, K + 1, h => by
    have hr := good_put (h r (List.mem_cons_self ..))
    rw [List.map_cons, itsL, if_pos hr, List.take_succ_cons, List.take_succ_cons, List.map_cons, itsL, if_pos hr, its_take rs _ K fun x hx => h x (List.mem_cons_of_mem _ hx)]
theorem its_length : ∀ (rs : List Rc) (a : Nat), (∀ r ∈ rs, RightR r) → (itsL (rs.map putR) a).length = rs.length
  | [], a, _ => rfl
  | r :: rs, a, h => by
    rw [List.map_cons, itsL, if_pos (good_put (h r (List.mem_cons_self ..))), List.length_cons, List.length_cons, its_length rs _ fun x hx => h x (List.mem_cons_of_mem _ hx)]
theorem its_last : ∀ (rs : List Rc) (a j : Nat) (r : Rc), (∀ r ∈ rs, RightR r) → rs[j]? = some r → ∃ t, (itsL (rs.map putR) a)[j]? = some t ∧ t.1 + t.2.1 = a + (bytesL (rs.take (j + 1))).length
  | [], _, _, _, _, h => by simp at h
  | r :: rs, a, 0, x, hr, h => by
    have hg := good_put (hr r (List.mem_cons_self ..))
    refine ⟨(a, (putR r).length + 8, putR r), by rw [List.map_cons, itsL, if_pos hg]; rfl, ?_⟩
    show _ = a + (putB (putR r) ++ []).length
    rw [List.append_nil, putB_good hg, frameB_length]
  | r :: rs, a, j + 1, x, hr, h => by
    have hg := good_put (hr r (List.mem_cons_self ..))
    obtain ⟨t, h1, h2⟩ := its_last rs (a + ((putR r).length + 8)) j x (fun y hy => hr y (List.mem_cons_of_mem _ hy)) (by simpa using h)
    refine ⟨t, by rw [List.map_cons, itsL, if_pos hg, List.getElem?_cons_succ]; exact h1, ?_⟩
    rw [h2]
    show _ = a + (putB (putR r) ++ bytesL (rs.take (j + 1))).length
    rw [List.length_append, putB_good hg, frameB_length]
    omega
/-- Of a cut segment the first ones are there: those that are whole at least. -/
theorem segAll_cut {m : Dk} {n : Int} {rs : List Rc} {x c : Nat} (hr : ∀ r ∈ rs, RightR r) (hx : 13 ≤ x) (hxl : x ≤ (segB n rs).length) (hc : c ≤ rs.length) (hcx : 13 + (bytesL (rs.take c)).length ≤ x)
    (hread : m.read (nmS n) 0 (m.size (nmS n)).1 = (some ((segB n rs).take x), 0)) : ∃ K, c ≤ K ∧ K ≤ rs.length ∧ segAllP m n = (foundL (rs.take K) 13, 0, 0) := by
  obtain ⟨K, h1, ⟨y, h2⟩, h3⟩ := torn_cut (firstS n :: rs.map putR) 0 x hxl
  have hi : itsL (firstS n :: rs.map putR) 0 = (0, 13, firstS n) :: itsL (rs.map putR) 13 := by rw [itsL, if_pos (good_first n), firstS_length]
  rw [hi] at h1 h2 h3
  have hK : 0 < K := (h3 0 (0, 13, firstS n) rfl).1 (by dsimp only; omega)
  obtain ⟨K', rfl⟩ : ∃ K', K = K' + 1 := ⟨K - 1, by omega⟩
  rw [List.length_cons, its_length rs 13 hr] at h1
  rw [List.take_succ_cons, its_take rs 13 K' hr] at h2
  obtain ⟨e1, e2⟩ := its_found (rs.take K') 13 fun r h => hr r (List.mem_of_mem_take h)
  refine ⟨K', ?_, by omega, ?_⟩
  · rcases Nat.eq_zero_or_pos c with h0 | h0
    · omega
    · obtain ⟨r, hrc⟩ : ∃ r, rs[c - 1]? = some r := ⟨_, List.getElem?_eq_getElem (by omega)⟩
      obtain ⟨t, g1, g2⟩ := its_last rs 13 (c - 1) r hr hrc
      rw [show c - 1 + 1 = c by omega] at g2
      have := (h3 c t (by rw [show c = (c - 1) + 1 by omega, List.getElem?_cons_succ]; exact g1)).1 (by omega)
      omega
  · rw [segAll_of hread h2 (begins_first n _), List.drop_succ_cons, List.drop_zero, e1, e2]
    rfl
end Go.Proofs.Ytdkpbphgaenlnaa

/-
  One segment, synced now and then, and booted: the first ones of its records are there, those that were synced at least.
-/
namespace Go.Proofs.Ytdkpbphgaenlnaa
open Go.RowKit
set_option linter.unusedVariables false
set_option linter.unusedSimpArgs false

theorem bytesL_append (a b : List Rc) : (bytesL (a ++ b)).length = (bytesL a).length + (bytesL b).length := by
  unfold bytesL
  rw [List.map_append, putL_append, List.length_append]
theorem bytesL_take (rs : List Rc) (c : Nat) : (bytesL (rs.take c)).length ≤ (bytesL rs).length := by
  have h := bytesL_append (rs.take c) (rs.drop c)
  rw [List.take_append_drop] at h
  omega
/-- Segment 1 on a disk that knows its name for good; of its records a, the first c are synced. -/
structure ST (m : Dk) (a : List Rc) (c k : Nat) : Prop where
  sb : SB m 1 a k
  kept : m.kept = [(nmS 1, 0)]
  pend : m.pend = []
  le : c ≤ a.length
  keptB : (m.files 0).kept = 13 + (bytesL (a.take c)).length
def T2 : Dk := (A1.sync (nmS 1)).1
def T3 : Dk := T2.syncDir.1
theorem T2ok : (A1.sync (nmS 1)).2 = 0 := by kernel_rfl
theorem T3ok : T2.syncDir.2 = 0 := by kernel_rfl
theorem T2dk : DkOk 8202 T2 := A1ok.sync _
theorem T3dk : DkOk 8202 T3 := T2dk.syncDir
theorem ST.start : ST T3 [] 0 0 :=
  ⟨⟨⟨13, ⟨⟨by kernel_rfl, neg_one (show T3.cut = -1 by kernel_rfl), neg_one (show T3.fail = -1 by kernel_rfl)⟩, by kernel_rfl, by kernel_rfl⟩, by omega⟩, ⟨by kernel_rfl, by kernel_rfl, fun r hr => by cases hr⟩, T3dk.mono (by omega), by rw [segB_length]; simp [bytesL, putL]⟩,
    by kernel_rfl, by kernel_rfl, Nat.le_refl _, by kernel_rfl⟩
section
variable {m : Dk} {a : List Rc} {c k : Nat}
theorem ST.right (h : ST m a c k) (hk : k ≤ 200) {r : Rc} (hr : RightR r) : (addP m 1 r).2 = (((segB 1 a).length : Int), ((frS r).length : Int), 0) ∧ ST (addP m 1 r).1 (a ++ [r]) c (k + 1) := by
  obtain ⟨h1, h2⟩ := h.sb.right hk hr
  obtain ⟨U, hw, hU⟩ := h.sb.w
  have hs := frS_small r
  have e := h.sb.sg.add hw hr (by omega)
  rw [e] at h2 ⊢
  refine ⟨rfl, h2, by rw [app_kept]; exact h.kept, by rw [app_pend]; exact h.pend, by rw [List.length_append]; have := h.le; omega, ?_⟩
  rw [app_keptB, h.keptB, List.take_append_of_le_length h.le]
theorem ST.ill (h : ST m a c k) {r : Rc} (hr : ¬ RightR r) : (addP m 1 r).2 = (0, 0, 1) ∧ ST (addP m 1 r).1 a c (k + 1) := by
  obtain ⟨h1, h2⟩ := h.sb.ill hr
  rw [add_ill m 1 hr] at h2 ⊢
  exact ⟨rfl, h2, h.kept, h.pend, h.le, h.keptB⟩
theorem ST.synced (h : ST m a c k) : (m.sync (nmS 1)).2 = 0 ∧ ST (m.sync (nmS 1)).1 a a.length k := by
  obtain ⟨U, hw, hU⟩ := h.sb.w
  have hok := h.sb.ok.sync (nmS 1)
  have e := hw.well.sync h.sb.sg.find
  rw [e] at hok ⊢
  refine ⟨rfl, ⟨⟨U, ⟨syn_well _ hw.well, hw.most, hw.used⟩, hU⟩, ⟨h.sb.sg.find, by rw [syn_bytes]; exact h.sb.sg.bytes, h.sb.sg.right⟩, hok, h.sb.len⟩, h.kept, h.pend, Nat.le_refl _, ?_⟩
  rw [syn_keptB, h.sb.sg.bytes, segB_length, List.take_length]
theorem ST.wide (h : ST m a c k) {k' : Nat} (hk : k ≤ k') : ST m a c k' :=
  ⟨⟨h.sb.w.imp fun U h => ⟨h.1, by omega⟩, h.sb.sg, h.sb.ok.mono (by omega), by have := h.sb.len; omega⟩, h.kept, h.pend, h.le, h.keptB⟩
/-- Behind a Boot: so many of them. -/
theorem ST.boot (h : ST m a c k) (l : List Int) : ∃ K, c ≤ K ∧ K ≤ a.length ∧ segAllP (m.boot 0 l) 1 = (foundL (a.take K) 13, 0, 0) := by
  have hle := bytesL_take a c
  have hlen := segB_length 1 a
  have hn : (m.boot 0 l).names = [(nmS 1, 0)] := by
    show redo (m.pend.take _) m.kept = _
    rw [h.pend, List.take_nil]
    exact h.kept
  have hfi : (m.boot 0 l).files 0 = (m.files 0).lose (more l 0) := by
    show (if (redo (m.pend.take _) m.kept).any (fun p => p.2 == 0) then _ else _) = _
    rw [h.pend, List.take_nil, show redo [] m.kept = m.kept from rfl, h.kept]
    rfl
  have hd : (m.boot 0 l).down = false := rfl
  have hf : Dir.find (nmS 1) (m.boot 0 l).names = some 0 := by
    rw [hn]
    unfold Dir.find
    simp
  obtain ⟨x, hx⟩ : ∃ x, (m.files 0).kept + (min (max (more l 0) 0) (((m.files 0).bytes.length : Int) - (m.files 0).kept)).toNat = x := ⟨_, rfl⟩
  have hby : ((m.boot 0 l).files 0).bytes = (segB 1 a).take x := by
    rw [hfi]
    unfold Fl.lose
    dsimp only
    rw [hx, h.sb.sg.bytes]
  have hkb := h.keptB
  rw [h.sb.sg.bytes, hkb] at hx
  have hx1 : 13 + (bytesL (a.take c)).length ≤ x := by omega
  have hx2 : x ≤ (segB 1 a).length := by omega
  refine segAll_cut h.sb.sg.right (by omega) hx2 h.le hx1 ?_
  rw [size_some hf, hby]
  unfold Dk.read
  rw [if_neg (by rw [hd]; decide), hf]
  dsimp only
  rw [hby, if_neg (by rw [List.length_take]; omega)]
  have e : (List.length ((segB 1 a).take x) : Int).toNat = ((segB 1 a).take x).length := Int.toNat_natCast _
  rw [e, show (0 : Int).toNat = 0 from rfl, List.drop_zero, List.take_length]
end
end Go.Proofs.Ytdkpbphgaenlnaa

/-
  Parts of a row of what was found, appended to a row that a region makes.
-/
namespace Go.Proofs.Ytdkpbphgaenlnaa
open Go.RowKit
set_option linter.unusedVariables false
set_option linter.unusedSimpArgs false

/-- A part of a row of structs, as cells. -/
theorem fn_part {w : World} {g n : Nat} {l : List (Fn × Fh)} (h : Fnds w (some ⟨g, 0, none⟩) n l) (hg : g < w.heap.size) (a m : Nat) (ham : a + m ≤ n) : Row w w.heap.size (some ⟨g, a * 9, none⟩) (9 * m) (((l.drop a).take m).flatMap fnE) := by
  have hlen : ((l.drop a).take m).length = m := by rw [List.length_take, List.length_drop, h.row.len]; omega
  refine ⟨by rw [flat_length fnL, hlen, Nat.mul_comm], fun k v hv => ?_⟩
  have hk : k < m * 9 := by
    rcases Nat.lt_or_ge k (m * 9) with hlt | hge
    · exact hlt
    · rw [List.getElem?_eq_none (by rw [flat_length fnL, hlen]; exact hge)] at hv
      cases hv
  obtain ⟨i, j, e, hj, hi⟩ : ∃ i j, k = i * 9 + j ∧ j < 9 ∧ i < m := ⟨k / 9, k % 9, by omega, by omega, by omega⟩
  subst e
  obtain ⟨x, hx⟩ : ∃ x, l[a + i]? = some x := ⟨_, List.getElem?_eq_getElem (by rw [h.row.len]; omega)⟩
  have hx2 : ((l.drop a).take m)[i]? = some x := by rw [List.getElem?_take_of_lt hi, List.getElem?_drop, hx]
  rw [flat_get fnL _ i j x hx2 hj] at hv
  obtain ⟨g', hgg, _, kc⟩ := h.row.spot (a + i) x hx
  injection hgg with hgg
  injection hgg with hgg _ _
  subst hgg
  refine ⟨_, rfl, hg, ?_⟩
  have := kc j hj
  have e : (a + i) * 9 + j = a * 9 + (i * 9 + j) := by omega
  rw [e] at this
  rw [show (⟨g, a * 9, none⟩ : Addr).add (i * 9 + j) = ⟨g, a * 9 + (i * 9 + j), none⟩ by
    unfold Addr.add
    split
    · rename_i h0
      rw [h0, Nat.add_zero]
    · rfl]
  rw [this]
  exact hv
set_option maxRecDepth 100000 in
/-- 'append(s, x...)', s a row that a region has made. -/
theorem app_own {W w : World} {ty : TypeId} {A0 : Option Addr} {k c0 : Nat} {xs : List Value} (hown : w.ownsRow W.heap.size 63 9 (.slice A0 k c0) k xs) {ad : Addr} {m c : Nat} {news : List Value} (hr : Row w w.heap.size (some ad) (9 * m) news)
    (h1 : ∀ u ∈ news, u.oneCell' = true) (j : Nat) (hj : k + m = j) (hj2 : j ≤ 1000000) (hb : W.heap.size ≤ w.heap.size) :
    ∃ A' c' w', (Builtin.append_ #[56, 56] ty #[.slice A0 k c0, .slice (some ad) m c]).run Try.prog w = .ok (.slice A' j c') w' ∧ w'.ownsRow W.heap.size 63 9 (.slice A' j c') j (xs ++ news) ∧ Spares (fun b => W.heap.size ≤ b) w w' := by
  subst hj
  obtain ⟨i0, hi, hz0, hz1, hz2⟩ := info_parts infoFnd
  obtain ⟨v', w', hrun, r1, r2, _, r3⟩ := run_append_own_at (P := Try.prog) (w := w) W.heap.size 56 ty 63 i0 _ 9 112 Try.underlying56 hi hz0 hz1 hz2 rfl (by decide) _ k xs hown ad m c news (by rw [hr.len, Nat.mul_comm])
    (fun j u hu => by obtain ⟨ad', he, _, hc⟩ := hr.spot j u hu; injection he with he; subst he; exact hc) h1 (by unfold maxLen; omega) (by omega) hb
  obtain ⟨A', c', rfl⟩ := slice_ownP r1
  exact ⟨A', c', w', hrun, r1, ⟨r2.os, r2.tape, r2.output, r2.size, fun q hq ho => r2.block q hq fun e => ho (hown.lt q e.symm).1⟩⟩
theorem exec_app9 {P : Program} {o : Oper} {a : Act} {w w' : World} {s x : Operand} {t u : TypeId} {v1 v2 v : Value} (ho : o.op = .call { callee := .builtin .append, args := #[s, x], argTypes := #[t, u] }) (hs : a.eval s = v1) (hx : a.eval x = v2)
    (hrun : (Builtin.append_ #[t, u] o.type #[v1, v2]).run P w = .ok v w') : (execOp a.eval o).run P w = .ok (.value v) w' := by
  unfold execOp
  simp only [ho, resolve, invoke, builtin, Sem.run_bind, Sem.run_pure, Result.andThen_ok, List.map_toArray, List.map_cons, List.map_nil, hs, hx, hrun]
theorem lit_row (B : Nat) (w : World) (h : B ≤ w.heap.size) : (w.alloc (.cells #[] 63)).ownsRow B 63 9 (.slice (some ⟨w.heap.size, 0, none⟩) 0 0) 0 [] :=
  World.ownsRow_made w #[] 0 h (Nat.zero_le _) rfl
theorem Want.cap {B : Nat} {w0 w : World} {out : Nat → Prop} {A : Option Addr} {n c : Nat} {l : List (Fn × Fh)} (h : Want B w0 w out A n c l) : n ≤ c := by
  rcases h.own.2 with ⟨e, e2⟩ | ⟨g, cap, _, e, _, _, h2, _⟩
  · omega
  · injection e with _ _ e; omega
theorem spares_grows {W w : World} (h : Spares (fun b => W.heap.size ≤ b) W w) : Grows W w := h.below (Nat.le_refl _) fun k hk e => by omega
theorem fnE_ones (l : List (Fn × Fh)) : ∀ u ∈ l.flatMap fnE, u.oneCell' = true := by
  intro u hu
  obtain ⟨p, _, h⟩ := List.mem_flatMap.1 hu
  exact fnE_one p u h
theorem fnsOf_append (a b : List (Fn × Fh)) : fnsOf (a ++ b) = fnsOf a ++ fnsOf b := List.map_append
theorem fnsOf_take (a : List (Fn × Fh)) (k : Nat) : fnsOf (a.take k) = (fnsOf a).take k := List.map_take
theorem fnsOf_drop (a : List (Fn × Fh)) (k : Nat) : fnsOf (a.drop k) = (fnsOf a).drop k := List.map_drop
end Go.Proofs.Ytdkpbphgaenlnaa
