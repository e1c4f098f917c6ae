/-
  Texts that the statements' proofs lean on, one behind the other.
-/
import Derived.Test.YtgemjdacnomnhaaMS
import Derived.Test.YtgemjdacnomnhaaRowsIn
import Derived.Test.YtgemjdacnomnhaaCame
import Derived.Test.YtgemjdacnomnhaaInts
import Derived.Deep.SlicePairs
/-
  A segment that is cut: the first ones of its records are there. And what a Boot leaves of a disk with one segment.
-/
namespace Go.Proofs.Ytgemjdacnomnhaa
open Go.RowKit
set_option linter.unusedVariables false
set_option linter.unusedSimpArgs false

/-- Frames that are cut. -/
theorem torn_cut : ∀ (l : List (List UInt8)) (a m : Nat), m ≤ (putL l).length → ∃ K, K ≤ (itsL l a).length ∧ (∃ y, allB ((putL l).take m) a = ((itsL l a).take K, 0, y)) ∧
    ∀ j t, (itsL l a)[j]? = some t → (t.1 + t.2.1 ≤ a + m ↔ j < K)
  | [], a, m, h => by
    have hm : m = 0 := by simpa [putL] using h
    subst hm
    exact ⟨0, Nat.zero_le _, ⟨_, by simp [putL, itsL, allB_nil]; rfl⟩, fun j t ht => by simp [itsL] at ht⟩
  | b :: l, a, m, h => by
    rw [putL] at h ⊢
    rw [itsL]
    by_cases hb : Good b
    · rw [if_pos hb, putB_good hb] at *
      rw [List.length_append, frameB_length] at h
      by_cases hm : m < b.length + 8
      · rw [List.take_append_of_le_length (by rw [frameB_length]; omega)]
        have hj : ∀ j t, ((a, b.length + 8, b) :: itsL l (a + (b.length + 8)))[j]? = some t → (t.1 + t.2.1 ≤ a + m ↔ j < 0) := fun j t ht => by
          cases j with
          | zero => simp at ht; subst ht; dsimp only; omega
          | succ j =>
            rw [List.getElem?_cons_succ] at ht
            have := itsL_sizes l _ t (List.mem_of_getElem? ht)
            omega
        rcases Nat.eq_zero_or_pos m with h0 | h0
        · subst h0
          exact ⟨0, Nat.zero_le _, ⟨_, by simp only [List.take_zero]; exact allB_nil a⟩, hj⟩
        · have hne : (frameB b).take m ≠ [] := fun h => by
            have := congrArg List.length h
            rw [List.length_take, frameB_length] at this
            simp at this
            omega
          refine ⟨0, Nat.zero_le _, ⟨(a, 21), ?_⟩, hj⟩
          rw [allB_stop hne (first_short_cut b hb.1 hb.2 m hm) (by omega)]
          rfl
      · obtain ⟨K, h1, ⟨y, h2⟩, h3⟩ := torn_cut l (a + (b.length + 8)) (m - (b.length + 8)) (by omega)
        rw [show a + (b.length + 8) + (m - (b.length + 8)) = a + m by omega] at h3
        refine ⟨K + 1, by rw [List.length_cons]; omega, ⟨y, ?_⟩, fun j t ht => ?_⟩
        · rw [List.take_append, frameB_length, List.take_of_length_le (by rw [frameB_length]; omega), allB_got (frame_ne b _) (first_back b _ hb.1 hb.2), List.drop_left' (frameB_length b), h2]
          rfl
        · cases j with
          | zero => simp at ht; subst ht; dsimp only; omega
          | succ j =>
            rw [List.getElem?_cons_succ] at ht
            have := h3 j t ht
            omega
    · rw [if_neg hb, putB_ill hb, List.nil_append] at *
      exact torn_cut l a m h
theorem its_take : ∀ (rs : List Rc) (a K : Nat), (∀ r ∈ rs, RightR r) → (itsL (rs.map putR) a).take K = itsL ((rs.take K).map putR) a
  | [], a, K, _ => by simp [itsL]
  | r :: rs, a, 0, _ => by simp [itsL]
  | r :: rs, a, K + 1, h => by
    have hr := good_put (h r (List.mem_cons_self ..))
    rw [List.map_cons, itsL, if_pos hr, List.take_succ_cons, List.take_succ_cons, List.map_cons, itsL, if_pos hr, its_take rs _ K fun x hx => h x (List.mem_cons_of_mem _ hx)]
theorem its_length : ∀ (rs : List Rc) (a : Nat), (∀ r ∈ rs, RightR r) → (itsL (rs.map putR) a).length = rs.length
  | [], a, _ => rfl
  | r :: rs, a, h => by
    rw [List.map_cons, itsL, if_pos (good_put (h r (List.mem_cons_self ..))), List.length_cons, List.length_cons, its_length rs _ fun x hx => h x (List.mem_cons_of_mem _ hx)]
theorem its_last : ∀ (rs : List Rc) (a j : Nat) (r : Rc), (∀ r ∈ rs, RightR r) → rs[j]? = some r → ∃ t, (itsL (rs.map putR) a)[j]? = some t ∧ t.1 + t.2.1 = a + (bytesL (rs.take (j + 1))).length
  | [], _, _, _, _, h => by simp at h
  | r :: rs, a, 0, x, hr, h => by
    have hg := good_put (hr r (List.mem_cons_self ..))
    refine ⟨(a, (putR r).length + 8, putR r), by rw [List.map_cons, itsL, if_pos hg]; rfl, ?_⟩
    show _ = a + (putB (putR r) ++ []).length
    rw [List.append_nil, putB_good hg, frameB_length]
  | r :: rs, a, j + 1, x, hr, h => by
    have hg := good_put (hr r (List.mem_cons_self ..))
    obtain ⟨t, h1, h2⟩ := its_last rs (a + ((putR r).length + 8)) j x (fun y hy => hr y (List.mem_cons_of_mem _ hy)) (by simpa using h)
    refine ⟨t, by rw [List.map_cons, itsL, if_pos hg, List.getElem?_cons_succ]; exact h1, ?_⟩
    rw [h2]
    show _ = a + (putB (putR r) ++ bytesL (rs.take (j + 1))).length
    rw [List.length_append, putB_good hg, frameB_length]
    omega
/-- Of a cut segment the first ones are there: those that are whole at least. -/
theorem segAll_cut {m : Dk} {n : Int} {rs : List Rc} {x c : Nat} (hr : ∀ r ∈ rs, RightR r) (hx : 13 ≤ x) (hxl : x ≤ (segB n rs).length) (hc : c ≤ rs.length) (hcx : 13 + (bytesL (rs.take c)).length ≤ x)
    (hread : m.read (nmS n) 0 (m.size (nmS n)).1 = (some ((segB n rs).take x), 0)) : ∃ K, c ≤ K ∧ K ≤ rs.length ∧ segAllP m n = (foundL (rs.take K) 13, 0, 0) := by
  obtain ⟨K, h1, ⟨y, h2⟩, h3⟩ := torn_cut (firstS n :: rs.map putR) 0 x hxl
  have hi : itsL (firstS n :: rs.map putR) 0 = (0, 13, firstS n) :: itsL (rs.map putR) 13 := by rw [itsL, if_pos (good_first n), firstS_length]
  rw [hi] at h1 h2 h3
  have hK : 0 < K := (h3 0 (0, 13, firstS n) rfl).1 (by dsimp only; omega)
  obtain ⟨K', rfl⟩ : ∃ K', K = K' + 1 := ⟨K - 1, by omega⟩
  rw [List.length_cons, its_length rs 13 hr] at h1
  rw [List.take_succ_cons, its_take rs 13 K' hr] at h2
  obtain ⟨e1, e2⟩ := its_found (rs.take K') 13 fun r h => hr r (List.mem_of_mem_take h)
  refine ⟨K', ?_, by omega, ?_⟩
  · rcases Nat.eq_zero_or_pos c with h0 | h0
    · omega
    · obtain ⟨r, hrc⟩ : ∃ r, rs[c - 1]? = some r := ⟨_, List.getElem?_eq_getElem (by omega)⟩
      obtain ⟨t, g1, g2⟩ := its_last rs 13 (c - 1) r hr hrc
      rw [show c - 1 + 1 = c by omega] at g2
      have := (h3 c t (by rw [show c = (c - 1) + 1 by omega, List.getElem?_cons_succ]; exact g1)).1 (by omega)
      omega
  · rw [segAll_of hread h2 (begins_first n _), List.drop_succ_cons, List.drop_zero, e1, e2]
    rfl
end Go.Proofs.Ytgemjdacnomnhaa

/-
  One segment, synced now and then, and booted: the first ones of its records are there, those that were synced at least.
-/
namespace Go.Proofs.Ytgemjdacnomnhaa
open Go.RowKit
set_option linter.unusedVariables false
set_option linter.unusedSimpArgs false

theorem bytesL_append (a b : List Rc) : (bytesL (a ++ b)).length = (bytesL a).length + (bytesL b).length := by
  unfold bytesL
  rw [List.map_append, putL_append, List.length_append]
theorem bytesL_take (rs : List Rc) (c : Nat) : (bytesL (rs.take c)).length ≤ (bytesL rs).length := by
  have h := bytesL_append (rs.take c) (rs.drop c)
  rw [List.take_append_drop] at h
  omega
/-- Segment 1 on a disk that knows its name for good; of its records a, the first c are synced. -/
structure ST (m : Dk) (a : List Rc) (c k : Nat) : Prop where
  sb : SB m 1 a k
  kept : m.kept = [(nmS 1, 0)]
  pend : m.pend = []
  le : c ≤ a.length
  keptB : (m.files 0).kept = 13 + (bytesL (a.take c)).length
def T2 : Dk := (A1.sync (nmS 1)).1
def T3 : Dk := T2.syncDir.1
theorem T2ok : (A1.sync (nmS 1)).2 = 0 := by kernel_rfl
theorem T3ok : T2.syncDir.2 = 0 := by kernel_rfl
theorem T2dk : DkOk 8202 T2 := A1ok.sync _
theorem T3dk : DkOk 8202 T3 := T2dk.syncDir
theorem ST.start : ST T3 [] 0 0 :=
  ⟨⟨⟨13, ⟨⟨by kernel_rfl, neg_one (show T3.cut = -1 by kernel_rfl), neg_one (show T3.fail = -1 by kernel_rfl)⟩, by kernel_rfl, by kernel_rfl⟩, by omega⟩, ⟨by kernel_rfl, by kernel_rfl, fun r hr => by cases hr⟩, T3dk.mono (by omega), by rw [segB_length]; simp [bytesL, putL]⟩,
    by kernel_rfl, by kernel_rfl, Nat.le_refl _, by kernel_rfl⟩
section
variable {m : Dk} {a : List Rc} {c k : Nat}
theorem ST.right (h : ST m a c k) (hk : k ≤ 200) {r : Rc} (hr : RightR r) : (addP m 1 r).2 = (((segB 1 a).length : Int), ((frS r).length : Int), 0) ∧ ST (addP m 1 r).1 (a ++ [r]) c (k + 1) := by
  obtain ⟨h1, h2⟩ := h.sb.right hk hr
  obtain ⟨U, hw, hU⟩ := h.sb.w
  have hs := frS_small r
  have e := h.sb.sg.add hw hr (by omega)
  rw [e] at h2 ⊢
  refine ⟨rfl, h2, by rw [app_kept]; exact h.kept, by rw [app_pend]; exact h.pend, by rw [List.length_append]; have := h.le; omega, ?_⟩
  rw [app_keptB, h.keptB, List.take_append_of_le_length h.le]
theorem ST.ill (h : ST m a c k) {r : Rc} (hr : ¬ RightR r) : (addP m 1 r).2 = (0, 0, 1) ∧ ST (addP m 1 r).1 a c (k + 1) := by
  obtain ⟨h1, h2⟩ := h.sb.ill hr
  rw [add_ill m 1 hr] at h2 ⊢
  exact ⟨rfl, h2, h.kept, h.pend, h.le, h.keptB⟩
theorem ST.synced (h : ST m a c k) : (m.sync (nmS 1)).2 = 0 ∧ ST (m.sync (nmS 1)).1 a a.length k := by
  obtain ⟨U, hw, hU⟩ := h.sb.w
  have hok := h.sb.ok.sync (nmS 1)
  have e := hw.well.sync h.sb.sg.find
  rw [e] at hok ⊢
  refine ⟨rfl, ⟨⟨U, ⟨syn_well _ hw.well, hw.most, hw.used⟩, hU⟩, ⟨h.sb.sg.find, by rw [syn_bytes]; exact h.sb.sg.bytes, h.sb.sg.right⟩, hok, h.sb.len⟩, h.kept, h.pend, Nat.le_refl _, ?_⟩
  rw [syn_keptB, h.sb.sg.bytes, segB_length, List.take_length]
theorem ST.wide (h : ST m a c k) {k' : Nat} (hk : k ≤ k') : ST m a c k' :=
  ⟨⟨h.sb.w.imp fun U h => ⟨h.1, by omega⟩, h.sb.sg, h.sb.ok.mono (by omega), by have := h.sb.len; omega⟩, h.kept, h.pend, h.le, h.keptB⟩
/-- Behind a Boot: so many of them. -/
theorem ST.boot (h : ST m a c k) (l : List Int) : ∃ K, c ≤ K ∧ K ≤ a.length ∧ segAllP (m.boot 0 l) 1 = (foundL (a.take K) 13, 0, 0) := by
  have hle := bytesL_take a c
  have hlen := segB_length 1 a
  have hn : (m.boot 0 l).names = [(nmS 1, 0)] := by
    show redo (m.pend.take _) m.kept = _
    rw [h.pend, List.take_nil]
    exact h.kept
  have hfi : (m.boot 0 l).files 0 = (m.files 0).lose (more l 0) := by
    show (if (redo (m.pend.take _) m.kept).any (fun p => p.2 == 0) then _ else _) = _
    rw [h.pend, List.take_nil, show redo [] m.kept = m.kept from rfl, h.kept]
    rfl
  have hd : (m.boot 0 l).down = false := rfl
  have hf : Dir.find (nmS 1) (m.boot 0 l).names = some 0 := by
    rw [hn]
    unfold Dir.find
    simp
  obtain ⟨x, hx⟩ : ∃ x, (m.files 0).kept + (min (max (more l 0) 0) (((m.files 0).bytes.length : Int) - (m.files 0).kept)).toNat = x := ⟨_, rfl⟩
  have hby : ((m.boot 0 l).files 0).bytes = (segB 1 a).take x := by
    rw [hfi]
    unfold Fl.lose
    dsimp only
    rw [hx, h.sb.sg.bytes]
  have hkb := h.keptB
  rw [h.sb.sg.bytes, hkb] at hx
  have hx1 : 13 + (bytesL (a.take c)).length ≤ x := by omega
  have hx2 : x ≤ (segB 1 a).length := by omega
  refine segAll_cut h.sb.sg.right (by omega) hx2 h.le hx1 ?_
  rw [size_some hf, hby]
  unfold Dk.read
  rw [if_neg (by rw [hd]; decide), hf]
  dsimp only
  rw [hby, if_neg (by rw [List.length_take]; omega)]
  have e : (List.length ((segB 1 a).take x) : Int).toNat = ((segB 1 a).take x).length := Int.toNat_natCast _
  rw [e, show (0 : Int).toNat = 0 from rfl, List.drop_zero, List.take_length]
end
end Go.Proofs.Ytgemjdacnomnhaa

/-
  A slice of slices of bytes that came in, and that none of these is too long.
-/
namespace Go.Proofs.Ytgemjdacnomnhaa
open Go.ChangeShapes Go.WideShapes Go.ChangeAt Go.RowKit

theorem weights_all {H : Type} {P : Program} {e : TypeId} {x : Nat} {d : DataW H} : ∀ {l : List (DataW H)}, d ∈ l → x ∈ d.weights P e → x ∈ DataW.weightsAll P e l
  | _ :: _, h, hx => by
    unfold DataW.weightsAll
    rcases List.mem_cons.1 h with rfl | h
    · exact List.mem_append_left _ hx
    · exact List.mem_append_right _ (weights_all h hx)

section
variable {H : Type} {enc : TypeId × Value → H} {P : Program} {W : World} {base : Nat} {r : Reach}
theorem open_rows2 {t e q : TypeId} {v : Value} {d : DataW H} {p : List MemPlace} (ht : P.underlying t = some (.slice e)) (he : P.underlying e = some (.slice q)) (hq : P.underlying q = some (.int .u8)) (ce : P.cellsOf e = 1) (cq : P.cellsOf q = 1)
    (hby : P.bytesOf e = 24) (hbq : P.bytesOf q = 1) (hv : Value.okWide P W r base t v) (h : DataW.Trod enc P W 0 (fun _ => true) true t v d p) {ts : List TypeId} {ds : List (DataW H)} (hsz : (DataW.weightsEach P ts ds).all (· ≤ reachBytes) = true) {j : Nat}
    (hj : ts[j]? = some t) (hd : ds[j]? = some d) : ∃ A n c ls, v = .slice A n c ∧ Lists W A n c ls ∧ c ≤ 140737488351232 ∧ ∀ l ∈ ls, l.length ≤ 140737488351232 := by
  obtain ⟨A, n, c, rfl⟩ := okWide_slice ht hv
  obtain ⟨fuel, hf⟩ := h
  rcases Go.Deep.open_int_rows ht he hq ce cq hf with ⟨hcs, _⟩ | ⟨x, l, c', B, L, C, Z, hcs, _, hl, hm, hx, hrow⟩
  · simp [Value.cells] at hcs
    obtain ⟨rfl, rfl, rfl⟩ := hcs
    exact ⟨none, 0, 0, [], rfl, ⟨rfl, Nat.le_refl _, fun _ => rfl, [], Row.nil _ _ _, fun i h l hh => by simp at hh⟩, by omega, fun l hl => by simp at hl⟩
  · simp [Value.cells] at hcs
    obtain ⟨rfl, rfl, rfl⟩ := hcs
    simp only [Prod.mk.injEq] at hx
    have hsz' := hsz
    have hs := sized_slice hsz hj (hd.trans (by rw [hx.1])) ht
    rw [hby] at hs
    simp only [List.length_map, List.length_range, reachBytes] at hs
    have hC : ∀ i, i < n → C i ≤ 140737488351232 := fun i hi => by
      obtain ⟨_, _, _, h4, _, h6, _⟩ := hrow i (by omega)
      rcases hB : B i with _ | a'
      · have := h6 hB; omega
      · have hm : C i ∈ DataW.weightsEach P ts ds := by
          refine DataW.weights_mem_each hj (hd.trans (by rw [hx.1])) _ ?_
          simp only [DataW.weights, ht]
          refine List.mem_cons_of_mem _ (List.mem_append_left _ (weights_all (List.mem_map.2 ⟨i, List.mem_range.2 hi, rfl⟩) ?_))
          rw [hB]
          simp only [Go.Deep.intRow, DataW.weights, he]
          refine List.mem_cons.2 (.inl ?_)
          rw [hbq, Nat.mul_one]
          simp only [lits, List.length_map, List.length_take, List.length_drop]
          omega
        have := List.all_eq_true.1 hsz' _ hm
        have h2 : C i ≤ reachBytes := by simpa using this
        unfold reachBytes at h2
        omega
    have key : ∀ i, i < c → Sl W (B i) (L i) (C i) (((Z i).take (L i)).map fun z => UInt8.ofNat z.toNat) := fun i hi => by
      obtain ⟨_, h2, _, h4, h5, h6, h7⟩ := hrow i hi
      refine ⟨⟨by simp; omega, fun k v hk => ?_⟩, h2, h6⟩
      rw [List.map_map, List.getElem?_map, List.getElem?_take] at hk
      split at hk
      · rename_i hkn
        have hkz : k < (Z i).length := by omega
        rw [List.getElem?_eq_getElem hkz] at hk
        rcases hB : B i with _ | a'
        · have := h6 hB; omega
        · obtain ⟨_, h8⟩ := h7 a' hB
          have h9 := h8 k (by omega)
          refine ⟨a', rfl, by have := World.block_lt_of_cell? W _ h9; rwa [add_block] at this, ?_⟩
          have hw := u8_of_wf (h5 (Z i)[k] (List.getElem_mem hkz))
          have hv' : v = byteV (UInt8.ofNat (Z i)[k].toNat) := by
            simp only [Option.map_some, Function.comp, Option.some.injEq] at hk
            exact hk.symm
          rw [h9, hv', byteV, hw, List.getD_eq_getElem?_getD, List.getElem?_eq_getElem hkz]
          rfl
      · cases hk
    refine ⟨some x, n, c, (List.range n).map fun i => ((Z i).take (L i)).map fun z => UInt8.ofNat z.toNat, rfl, ⟨by simp, hl, (fun h => by cases h), (List.range n).map fun i => (B i, L i, C i), ⟨by simp, fun k v hk => ?_⟩, fun i h l hh hl' => ?_⟩, by omega, fun l hl => ?_⟩
    · rw [List.map_map, List.getElem?_map] at hk
      rcases Nat.lt_or_ge k n with hkn | hkn
      · rw [List.getElem?_range hkn] at hk
        simp only [Option.map_some, Function.comp, Option.some.injEq] at hk
        have h9 := (hrow k (by omega)).1
        exact ⟨x, rfl, by have := World.block_lt_of_cell? W _ h9; rwa [add_block] at this, by rw [h9, ← hk]; rfl⟩
      · rw [List.getElem?_eq_none (by simpa using hkn)] at hk; cases hk
    · rw [List.getElem?_map] at hh hl'
      rcases Nat.lt_or_ge i n with hin | hin
      · rw [List.getElem?_range hin] at hh hl'
        simp only [Option.map_some, Option.some.injEq] at hh hl'
        subst hh hl'
        exact key i (by omega)
      · rw [List.getElem?_eq_none (by simpa using hin)] at hh; cases hh
    · obtain ⟨i, hi, rfl⟩ := List.mem_map.1 hl
      have h1 := hC i (List.mem_range.1 hi)
      obtain ⟨_, h2, _, h4, _⟩ := hrow i (by have := List.mem_range.1 hi; omega)
      rw [List.length_map, List.length_take]
      omega
end
end Go.Proofs.Ytgemjdacnomnhaa

/-
  Calls of a disk that came in, as a list.
-/
namespace Go.Proofs.Ytgemjdacnomnhaa
open Go.ChangeShapes Go.WideShapes Go.ChangeAt Go.RowKit
set_option linter.unusedVariables false

structure O8 where
  what : Int
  name : List UInt8
  to : List UInt8
  b : List UInt8
  n : Int
  bytes : List Int
  bits : Int
/-- Where a call has its bytes, and its numbers. -/
structure P8 where
  BA : Option Addr
  bn : Nat
  bc : Nat
  IA : Option Addr
  im : Nat
  ic : Nat
instance : Inhabited O8 := ⟨⟨0, [], [], [], 0, [], 0⟩⟩
instance : Inhabited P8 := ⟨⟨none, 0, 0, none, 0, 0⟩⟩
def o8V (o : O8) (p : P8) : List Value := [.int .i64 o.what, .string ⟨o.name.toArray⟩, .string ⟨o.to.toArray⟩, .slice p.BA p.bn p.bc, .int .i64 o.n, .slice p.IA p.im p.ic, .int .u32 o.bits]
structure O8At (w : World) (o : O8) (p : P8) : Prop where
  what : -9223372036854775808 ≤ o.what ∧ o.what ≤ 9223372036854775807
  name : o.name.length ≤ 9223372036854775807
  to : o.to.length ≤ 9223372036854775807
  b : Sl w p.BA p.bn p.bc o.b
  n : -9223372036854775808 ≤ o.n ∧ o.n ≤ 9223372036854775807
  bytes : Ints w p.IA p.im p.ic o.bytes
  each : ∀ x ∈ o.bytes, -9223372036854775808 ≤ x ∧ x ≤ 9223372036854775807
  bits : 0 ≤ o.bits ∧ o.bits ≤ 4294967295
  small : o.name.length ≤ 140737488351232 ∧ o.to.length ≤ 140737488351232 ∧ o.b.length ≤ 140737488351232 ∧ o.bytes.length ≤ 140737488351232
/-- The list, as functions are handed it. -/
structure Ops8 (w : World) (A : Option Addr) (n c : Nat) (os : List O8) : Prop where
  len : os.length = n
  cap : n ≤ c
  top : n ≤ 140737488351232
  spot : ∀ i, i < n → ∃ (ad : Addr) (o : O8) (p : P8), A = some ad ∧ ad.block < w.heap.size ∧ os[i]? = some o ∧ O8At w o p ∧ ∀ k, k < 7 → w.cell? ((ad.add (i * 7)).add k) = (o8V o p)[k]?

theorem Sl.block {W : World} {A : Option Addr} {n c : Nat} {bs : List UInt8} (h : Sl W A n c bs) : ∀ ad, A = some ad → bs ≠ [] → ad.block < W.heap.size := by
  intro ad hA hne
  have hl := h.len
  have hpos : 0 < n := by
    rcases Nat.eq_zero_or_pos n with h0 | h0
    · exact absurd (List.eq_nil_of_length_eq_zero (by omega)) hne
    · exact h0
  obtain ⟨ad', hA', hb, _⟩ := h.bytes.spot hpos
  rw [hA] at hA'
  injection hA' with hA'
  rw [hA']
  exact hb
theorem Ints.block {W : World} {A : Option Addr} {n c : Nat} {xs : List Int} (h : Ints W A n c xs) : ∀ ad, A = some ad → xs ≠ [] → ad.block < W.heap.size := by
  intro ad hA hne
  have hl := h.len
  have hpos : 0 < n := by
    rcases Nat.eq_zero_or_pos n with h0 | h0
    · exact absurd (List.eq_nil_of_length_eq_zero (by omega)) hne
    · exact h0
  obtain ⟨ad', x, hA', _, _, hb⟩ := h.get hpos
  rw [hA] at hA'
  injection hA' with hA'
  rw [hA']
  exact hb

section
variable {H : Type} {enc : TypeId × Value → H} {W : World} {base : Nat} {r : Reach}
theorem open_sl8 {m : Nat} {a : Value} {x : DataW H × List MemPlace} (h : DataW.trod enc Try.prog W 0 (fun _ => true) true m 30 [a] = some x) : ∃ A n c bs, a = .slice A n c ∧ Sl W A n c bs ∧ (n = 0 ∨ c ∈ x.1.weights Try.prog 30) := by
  rcases open_ints Try.underlying30 Try.underlying5 (by kernel_rfl) h with ⟨hcs, _⟩ | ⟨x, l, c, zs, hcs, _, hl, hm, hz, hxx, hcell, hwz⟩
  · simp at hcs
    exact ⟨none, 0, 0, [], hcs, Sl.nil _, .inl rfl⟩
  · simp at hcs
    have hz' : zs.length = c := by simpa using hz
    refine ⟨some x, l, c, (zs.take l).map (fun z => UInt8.ofNat z.toNat), hcs, ⟨⟨?_, ?_⟩, hl, fun h => by cases h⟩, .inr ?_⟩
    rotate_right 1
    · rw [hxx]
      simp only [DataW.weights, Try.underlying30]
      refine List.mem_cons.2 (.inl ?_)
      rw [show Try.prog.bytesOf 5 = 1 by kernel_rfl, Nat.mul_one]
      simp only [lits, List.length_map, List.length_take, List.length_drop]
      omega
    · rw [List.length_map, List.length_map, List.length_take]
      omega
    · intro k v hk
      rw [List.map_map, List.getElem?_map, List.getElem?_take] at hk
      split at hk
      · rename_i hkn
        have hkz : k < zs.length := by omega
        rw [List.getElem?_eq_getElem hkz] at hk
        have hcl := hcell k hkz
        refine ⟨x, rfl, by have := World.block_lt_of_cell? W _ hcl; rwa [add_block] at this, ?_⟩
        have hw := u8_of_wf (hwz zs[k] (List.getElem_mem hkz))
        have hv' : v = byteV (UInt8.ofNat zs[k].toNat) := by
          simp only [Option.map_some, Function.comp, Option.some.injEq] at hk
          exact hk.symm
        rw [hcl, hv', byteV, hw, List.getD_eq_getElem?_getD, List.getElem?_eq_getElem hkz]
        rfl
      · cases hk
theorem open_is8 {m : Nat} {a : Value} {x : DataW H × List MemPlace} (h : DataW.trod enc Try.prog W 0 (fun _ => true) true m 31 [a] = some x) : ∃ A n c xs, a = .slice A n c ∧ Ints W A n c xs ∧ (n = 0 ∨ c * 8 ∈ x.1.weights Try.prog 31) ∧ ∀ x ∈ xs, -9223372036854775808 ≤ x ∧ x ≤ 9223372036854775807 := by
  rcases open_ints Try.underlying31 Try.underlying3 (by kernel_rfl) h with ⟨hcs, _⟩ | ⟨x, l, c, zs, hcs, _, hl, hm, hz, hx, hcell, hwz⟩
  · simp at hcs
    exact ⟨none, 0, 0, [], hcs, ⟨Row.nil _ _ _, Nat.le_refl _, fun _ => rfl⟩, .inl rfl, fun x hx => by cases hx⟩
  · simp at hcs
    have hz' : zs.length = c := by simpa using hz
    refine ⟨some x, l, c, zs.take l, hcs, ⟨⟨?_, fun k v hk => ?_⟩, hl, (fun h => by cases h)⟩, .inr ?_, fun y hy => bounds_i64 (hwz y (List.mem_of_mem_take hy))⟩
    rotate_right 1
    · rw [hx]
      simp only [DataW.weights, Try.underlying31]
      refine List.mem_cons.2 (.inl ?_)
      rw [show Try.prog.bytesOf 3 = 8 by kernel_rfl]
      simp only [lits, List.length_map, List.length_take, List.length_drop]
      congr 1
      omega
    · rw [List.length_map, List.length_take]
      omega
    · rw [List.getElem?_map, List.getElem?_take] at hk
      split at hk
      · rename_i hkn
        have hkz : k < zs.length := by omega
        rw [List.getElem?_eq_getElem hkz] at hk
        have hcl := hcell k hkz
        refine ⟨x, rfl, by have := World.block_lt_of_cell? W _ hcl; rwa [add_block] at this, ?_⟩
        simp only [Option.map_some, Option.some.injEq] at hk
        rw [hcl, ← hk, iV, List.getD_eq_getElem?_getD, List.getElem?_eq_getElem hkz]
        rfl
      · cases hk
set_option maxRecDepth 100000 in
theorem open_ops8 {v : Value} {d : DataW H} {p : List MemPlace} (hv : Value.okWide Try.prog W r base 22 v) (h : DataW.Trod enc Try.prog W 0 (fun _ => true) true 22 v d p) {ts : List TypeId} {ds : List (DataW H)} (hsz : (DataW.weightsEach Try.prog ts ds).all (· ≤ reachBytes) = true) {j : Nat}
    (hj : ts[j]? = some 22) (hd : ds[j]? = some d) :
    ∃ A n c os, v = .slice A n c ∧ Ops8 W A n c os := by
  obtain ⟨A, n, c, rfl⟩ := okWide_slice Try.underlying22 hv
  obtain ⟨fuel, hf⟩ := h
  have ce : Try.prog.cellsOf 34 = 7 := by kernel_rfl
  have c_int : Try.prog.cellsOf 3 = 1 := by kernel_rfl
  have c_string : Try.prog.cellsOf 9 = 1 := by kernel_rfl
  have c_suint8 : Try.prog.cellsOf 30 = 1 := by kernel_rfl
  have c_sint : Try.prog.cellsOf 31 = 1 := by kernel_rfl
  have c_uint32 : Try.prog.cellsOf 32 = 1 := by kernel_rfl
  rcases DataW.trod_slice Try.underlying22 hf with ⟨hcs, _⟩ | ⟨ad, len, cap, elems, rest, k, _, hcs, hxd, _, hl, hmx, hlen, hel, _⟩
  · simp [Value.cells] at hcs
    obtain ⟨rfl, rfl, rfl⟩ := hcs
    exact ⟨none, 0, 0, [], rfl, ⟨rfl, Nat.le_refl _, by omega, fun i hi => absurd hi (Nat.not_lt_zero i)⟩⟩
  · simp [Value.cells] at hcs
    obtain ⟨rfl, rfl, rfl⟩ := hcs
    have hdd : d = .slice (elems.map (·.1)) (rest.map (·.1)) := by
      simp only [Prod.mk.injEq] at hxd
      exact hxd.1
    have wt : ∀ z ∈ d.weights Try.prog 22, z ≤ 140737488351232 := fun z hz => by
      have := List.all_eq_true.1 hsz _ (DataW.weights_mem_each hj hd _ hz)
      have h2 : z ≤ reachBytes := by simpa using this
      unfold reachBytes at h2
      omega
    have wtop : n ≤ 140737488351232 := by
      have := wt ((elems.length + rest.length) * 104) (by
        rw [hdd]
        simp only [DataW.weights, Try.underlying22]
        refine List.mem_cons.2 (.inl ?_)
        rw [show Try.prog.bytesOf 34 = 104 by kernel_rfl]
        simp only [List.length_map])
      omega
    have wts : ∀ (i : Nat) e, elems[i]? = some e → ∀ z ∈ e.1.weights Try.prog 34, z ≤ 140737488351232 := fun i e he z hz => wt z (by
      rw [hdd]
      simp only [DataW.weights, Try.underlying22]
      exact List.mem_cons_of_mem _ (List.mem_append_left _ (weights_all (List.mem_map.2 ⟨e, List.mem_of_getElem? he, rfl⟩) hz)))
    have each : ∀ i, i < n → ∃ q : O8 × P8, O8At W q.1 q.2 ∧ ∀ k, k < 7 → W.cell? ((ad.add (i * 7)).add k) = (o8V q.1 q.2)[k]? := by
      intro i hi
      have h1 := hel i hi
      have hei : elems[i]? = some elems[i] := List.getElem?_eq_getElem (by omega)
      have wti := wts i _ hei
      rw [ce, hei] at h1
      obtain ⟨cs', h2, h3⟩ := Option.bind_eq_some_iff.1 h1
      obtain ⟨_, hlen', hcell⟩ := World.cells?_some h2
      obtain ⟨ys, k', _, hxa, _, hyl, hf⟩ := DataW.trod_struct Try.underlying34 h3
      rw [hxa] at wti
      match ys, hyl, cs', hlen', wti with
      | [y0, y1, y2, y3, y4, y5, y6], _, [v0, v1, v2, v3, v4, v5, v6], _, wti =>
        have wti : ∀ z ∈ y0.1.weights Try.prog 3 ++ (y1.1.weights Try.prog 9 ++ (y2.1.weights Try.prog 9 ++ (y3.1.weights Try.prog 30 ++ (y4.1.weights Try.prog 3 ++ (y5.1.weights Try.prog 31 ++ (y6.1.weights Try.prog 32 ++ [])))))), z ≤ 140737488351232 := fun z hz => wti z (by
          simp only [DataW.weights, Try.underlying34, List.map_cons, List.map_nil, DataW.weightsEach]
          exact hz)
        have g0 : DataW.trod enc Try.prog W 0 (fun _ => true) true k' 3 [v0] = some y0 := by
          have h := hf 0 { name := "What", type := 3, offset := 0, embedded := false, tag := "", pkgPath := "", byteOffset := 0 } rfl
          dsimp only at h
          rw [c_int] at h
          exact h
        have g1 : DataW.trod enc Try.prog W 0 (fun _ => true) true k' 9 [v1] = some y1 := by
          have h := hf 1 { name := "Name", type := 9, offset := 1, embedded := false, tag := "", pkgPath := "", byteOffset := 8 } rfl
          dsimp only at h
          rw [c_string] at h
          exact h
        have g2 : DataW.trod enc Try.prog W 0 (fun _ => true) true k' 9 [v2] = some y2 := by
          have h := hf 2 { name := "To", type := 9, offset := 2, embedded := false, tag := "", pkgPath := "", byteOffset := 24 } rfl
          dsimp only at h
          rw [c_string] at h
          exact h
        have g3 : DataW.trod enc Try.prog W 0 (fun _ => true) true k' 30 [v3] = some y3 := by
          have h := hf 3 { name := "B", type := 30, offset := 3, embedded := false, tag := "", pkgPath := "", byteOffset := 40 } rfl
          dsimp only at h
          rw [c_suint8] at h
          exact h
        have g4 : DataW.trod enc Try.prog W 0 (fun _ => true) true k' 3 [v4] = some y4 := by
          have h := hf 4 { name := "N", type := 3, offset := 4, embedded := false, tag := "", pkgPath := "", byteOffset := 64 } rfl
          dsimp only at h
          rw [c_int] at h
          exact h
        have g5 : DataW.trod enc Try.prog W 0 (fun _ => true) true k' 31 [v5] = some y5 := by
          have h := hf 5 { name := "Bytes", type := 31, offset := 5, embedded := false, tag := "", pkgPath := "", byteOffset := 72 } rfl
          dsimp only at h
          rw [c_sint] at h
          exact h
        have g6 : DataW.trod enc Try.prog W 0 (fun _ => true) true k' 32 [v6] = some y6 := by
          have h := hf 6 { name := "Bits", type := 32, offset := 6, embedded := false, tag := "", pkgPath := "", byteOffset := 96 } rfl
          dsimp only at h
          rw [c_uint32] at h
          exact h
        obtain ⟨z0, e0, _, b0⟩ := DataW.trod_int Try.underlying3 g0
        obtain ⟨z1, e1, x1, b1⟩ := DataW.trod_string Try.underlying9 g1
        obtain ⟨z2, e2, x2, b2⟩ := DataW.trod_string Try.underlying9 g2
        obtain ⟨BA, bn, bc, bs, e3, hB, hBw⟩ := open_sl8 g3
        obtain ⟨z4, e4, _, b4⟩ := DataW.trod_int Try.underlying3 g4
        obtain ⟨IA, im, ic, is, e5, hI, hIw, hIb⟩ := open_is8 g5
        obtain ⟨z6, e6, _, b6⟩ := DataW.trod_int Try.underlying32 g6
        have c0 := hcell 0 (by omega)
        have c1 := hcell 1 (by omega)
        have c2 := hcell 2 (by omega)
        have c3 := hcell 3 (by omega)
        have c4 := hcell 4 (by omega)
        have c5 := hcell 5 (by omega)
        have c6 := hcell 6 (by omega)
        simp at c0 c1 c2 c3 c4 c5 c6 e0 e1 e2 e4 e6
        subst e0 e1 e2 e3 e4 e5 e6
        refine ⟨(⟨z0, z1.data.toList, z2.data.toList, bs, z4, is, z6⟩, ⟨BA, bn, bc, IA, im, ic⟩), ⟨bounds_i64 b0, ?_, ?_, hB, bounds_i64 b4, hI, hIb, bounds_u32 b6, ⟨?_, ?_, ?_, ?_⟩⟩, fun k hk => ?_⟩
        · have : z1.data.toList.length = z1.size := Array.length_toList
          unfold maxLen at b1
          show z1.data.toList.length ≤ _
          omega
        · have : z2.data.toList.length = z2.size := Array.length_toList
          unfold maxLen at b2
          show z2.data.toList.length ≤ _
          omega
        · refine wti _ (List.mem_append_right _ (List.mem_append_left _ ?_))
          rw [x1]
          simp only [DataW.weights]
          exact List.mem_singleton.2 rfl
        · refine wti _ (List.mem_append_right _ (List.mem_append_right _ (List.mem_append_left _ ?_)))
          rw [x2]
          simp only [DataW.weights]
          exact List.mem_singleton.2 rfl
        · have hlen := hB.len
          have hcap := hB.cap
          show bs.length ≤ _
          rcases hBw with h | h
          · omega
          · have := wti _ (List.mem_append_right _ (List.mem_append_right _ (List.mem_append_right _ (List.mem_append_left _ h))))
            omega
        · have hlen := hI.len
          have hcap := hI.cap
          show is.length ≤ _
          rcases hIw with h | h
          · omega
          · have := wti _ (List.mem_append_right _ (List.mem_append_right _ (List.mem_append_right _ (List.mem_append_right _ (List.mem_append_right _ (List.mem_append_left _ h))))))
            omega
        · match k, hk with
          | 0, _ => exact c0
          | 1, _ => exact c1
          | 2, _ => exact c2
          | 3, _ => exact c3
          | 4, _ => exact c4
          | 5, _ => exact c5
          | 6, _ => exact c6
    obtain ⟨f, hf⟩ := Go.Deep.choose_lt each
    refine ⟨some ad, n, c, (List.range n).map fun i => (f i).1, rfl, ⟨by simp, hl, wtop, fun i hi => ?_⟩⟩
    obtain ⟨h1, h2⟩ := hf i hi
    refine ⟨ad, (f i).1, (f i).2, rfl, ?_, by rw [List.getElem?_map, List.getElem?_range hi]; rfl, h1, h2⟩
    have := World.block_lt_of_cell? W _ (h2 0 (by omega) : _ = some (Value.int .i64 (f i).1.what))
    rwa [add_block, add_block] at this
set_option maxRecDepth 100000 in
theorem open_i64b {v : Value} {d : DataW H} {p : List MemPlace} (hv : Value.okWide Try.prog W r base 31 v) (h : DataW.Trod enc Try.prog W 0 (fun _ => true) true 31 v d p) :
    ∃ A n c xs, v = .slice A n c ∧ Ints W A n c xs ∧ ∀ x ∈ xs, -9223372036854775808 ≤ x ∧ x ≤ 9223372036854775807 := by
  obtain ⟨A, n, c, rfl⟩ := okWide_slice Try.underlying31 hv
  obtain ⟨fuel, hf⟩ := h
  obtain ⟨A', n', c', xs, h1, h2, _, h3⟩ := open_is8 (a := .slice A n c) hf
  exact ⟨A', n', c', xs, h1, h2, h3⟩
end
theorem O8At.grow {w w' : World} {o : O8} {p : P8} (h : O8At w o p) (hg : Grows w w') : O8At w' o p := ⟨h.what, h.name, h.to, h.b.grow hg, h.n, h.bytes.grow hg, h.each, h.bits, h.small⟩
theorem Ops8.grow {w w' : World} {A : Option Addr} {n c : Nat} {os : List O8} (h : Ops8 w A n c os) (hg : Grows w w') : Ops8 w' A n c os := by
  refine ⟨h.len, h.cap, h.top, fun i hi => ?_⟩
  obtain ⟨ad, o, p, h1, h2, h3, h4, h5⟩ := h.spot i hi
  exact ⟨ad, o, p, h1, Nat.lt_of_lt_of_le h2 hg.size, h3, h4.grow hg, fun k hk => by rw [hg.cell (by rw [add_block, add_block]; exact h2)]; exact h5 k hk⟩
end Go.Proofs.Ytgemjdacnomnhaa
