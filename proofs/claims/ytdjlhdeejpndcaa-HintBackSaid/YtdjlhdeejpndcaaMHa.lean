/-
  Texts that the statements' proofs lean on, one behind the other.
-/
import Derived.Test.YtdjlhdeejpndcaaMR
import Derived.Test.YtdjlhdeejpndcaaRcPlain
import Derived.Maps.OwnSet
import Derived.Sort.KeysCollected
/-
  Hints, plainly: which are right, their bytes, and what of any bytes is got. No program in sight.
-/
namespace Go.Proofs.Ytdjlhdeejpndcaa

/-! The order of keys. -/
theorem bef_irrefl : ∀ a : List UInt8, bytesBefore a a = false
  | [] => rfl
  | a :: r => by
    have := bef_irrefl r
    simp [bytesBefore, this]
theorem bef_total : ∀ {a b : List UInt8}, bytesBefore a b = false → a ≠ b → bytesBefore b a = true
  | [], [], _, h => absurd rfl h
  | [], _ :: _, h, _ => by simp [bytesBefore] at h
  | _ :: _, [], _, _ => rfl
  | x :: r, y :: s, h, hne => by
    simp only [bytesBefore, Bool.or_eq_false_iff, decide_eq_false_iff_not, Bool.and_eq_false_iff, beq_eq_false_iff_ne] at h
    simp only [bytesBefore, Bool.or_eq_true, decide_eq_true_eq, Bool.and_eq_true, beq_iff_eq]
    obtain ⟨h1, h2⟩ := h
    by_cases hxy : x = y
    · subst hxy
      refine .inr ⟨rfl, bef_total (h2.resolve_left fun h => h rfl) fun e => hne (by rw [e])⟩
    · refine .inl ?_
      have h3 : ¬ x.toNat < y.toNat := h1
      have h4 : x.toNat ≠ y.toNat := fun e => hxy (UInt8.toNat_inj.1 e)
      show y.toNat < x.toNat
      omega
theorem bef_trans : ∀ {a b c : List UInt8}, bytesBefore a b = true → bytesBefore b c = true → bytesBefore a c = true
  | [], [], _, h, _ => by simp [bytesBefore] at h
  | [], _ :: _, [], _, h => by simp [bytesBefore] at h
  | [], _ :: _, _ :: _, _, _ => rfl
  | _ :: _, [], _, h, _ => by simp [bytesBefore] at h
  | _ :: _, _ :: _, [], _, h => by simp [bytesBefore] at h
  | x :: r, y :: s, z :: t, h, k => by
    simp only [bytesBefore, Bool.or_eq_true, decide_eq_true_eq, Bool.and_eq_true, beq_iff_eq] at h k ⊢
    rcases h with h | ⟨rfl, h⟩
    · rcases k with k | ⟨rfl, k⟩
      · left
        have h3 : x.toNat < y.toNat := h
        have h4 : y.toNat < z.toNat := k
        show x.toNat < z.toNat
        omega
      · exact .inl h
    · rcases k with k | ⟨rfl, k⟩
      · exact .inl k
      · exact .inr ⟨rfl, bef_trans h k⟩
theorem bef_asymm {a b : List UInt8} (h : bytesBefore a b = true) : bytesBefore b a = false := by
  rcases hb : bytesBefore b a with _ | _
  · rfl
  · have := bef_trans h hb
    rw [bef_irrefl] at this
    cases this

/-- A hint. -/
structure Ht where
  kind : Int
  key : List UInt8
  at_ : Int
  size : Int
def Ht.none : Ht := ⟨0, [], 0, 0⟩
def keyB (k : List UInt8) : Bool := decide (1 ≤ k.length) && decide (k.length ≤ 64)
def hintedB (k : Int) : Bool := decide (2 ≤ k) && decide (k ≤ 4)
def aloneB (h : Ht) : Bool := hintedB h.kind && keyB h.key && (decide (0 ≤ h.at_) && decide (h.at_ ≤ 1073741824)) && (decide (9 ≤ h.size) && decide (h.size ≤ 8200))
theorem alone_nums {h : Ht} (ha : aloneB h = true) : (2 ≤ h.kind ∧ h.kind ≤ 4) ∧ (1 ≤ h.key.length ∧ h.key.length ≤ 64) ∧ (0 ≤ h.at_ ∧ h.at_ ≤ 1073741824) ∧ 9 ≤ h.size ∧ h.size ≤ 8200 := by
  simp only [aloneB, hintedB, keyB, Bool.and_eq_true, decide_eq_true_eq] at ha
  obtain ⟨⟨⟨⟨a, b⟩, c, d⟩, e, f⟩, g, h⟩ := ha
  exact ⟨⟨a, b⟩, ⟨c, d⟩, ⟨e, f⟩, g, h⟩
def rightF : List UInt8 → List Ht → Bool
  | _, [] => true
  | last, h :: r => aloneB h && bytesBefore last h.key && rightF h.key r
def lastK : List UInt8 → List Ht → List UInt8
  | d, [] => d
  | _, h :: r => lastK h.key r
theorem rightF_append : ∀ (d : List UInt8) (a b : List Ht), rightF d (a ++ b) = (rightF d a && rightF (lastK d a) b)
  | d, [], b => by simp [rightF, lastK]
  | d, h :: a, b => by
    rw [List.cons_append, rightF, rightF, lastK, rightF_append h.key a b]
    simp only [Bool.and_assoc]
theorem lastK_snoc : ∀ (d : List UInt8) (a : List Ht) (h : Ht), lastK d (a ++ [h]) = h.key
  | _, [], _ => rfl
  | _, x :: a, h => lastK_snoc x.key a h
def rightH (l : List Ht) : Bool := rightF [] l
theorem rightF_all : ∀ {d : List UInt8} {l : List Ht}, rightF d l = true → ∀ h ∈ l, aloneB h = true
  | _, [], _, h, hh => by cases hh
  | d, x :: l, hr, h, hh => by
    rw [rightF, Bool.and_eq_true, Bool.and_eq_true] at hr
    rcases List.mem_cons.1 hh with rfl | hh
    · exact hr.1.1
    · exact rightF_all hr.2 h hh
/-- Keys rise. -/
def Rising (l : List Ht) : Prop := l.Pairwise fun x y => bytesBefore x.key y.key = true
theorem rightF_rise : ∀ {d : List UInt8} {l : List Ht}, rightF d l = true → (∀ h ∈ l, bytesBefore d h.key = true) ∧ Rising l
  | _, [], _ => ⟨fun h hh => (by cases hh), List.Pairwise.nil⟩
  | d, x :: l, hr => by
    rw [rightF, Bool.and_eq_true, Bool.and_eq_true] at hr
    have ih := rightF_rise hr.2
    refine ⟨fun h hh => ?_, List.Pairwise.cons ih.1 ih.2⟩
    rcases List.mem_cons.1 hh with rfl | hh
    · exact hr.1.2
    · exact bef_trans hr.1.2 (ih.1 h hh)

/-! Their bytes. -/
def bodyH (h : Ht) : List UInt8 := numB h.kind 1 ++ numB h.at_ 4 ++ numB h.size 2 ++ h.key
theorem bodyH_length (h : Ht) : (bodyH h).length = 7 + h.key.length := by
  unfold bodyH
  simp only [List.length_append, numB_length]
theorem bodyH_good {h : Ht} (ha : aloneB h = true) : Good (bodyH h) := by
  have := alone_nums ha
  unfold Good
  rw [bodyH_length]
  omega
def lastB (count size : Int) (ahead : List UInt8) : List UInt8 := [7] ++ numB count 4 ++ numB size 4 ++ numB (onN tabN 0 ahead : Nat) 4
theorem lastB_length (count size : Int) (ahead : List UInt8) : (lastB count size ahead).length = 13 := by
  unfold lastB
  simp only [List.length_append, numB_length, List.length_cons, List.length_nil]
theorem lastB_good (count size : Int) (ahead : List UInt8) : Good (lastB count size ahead) := by
  unfold Good
  rw [lastB_length]
  omega
def rowsH (l : List Ht) : List UInt8 := putL (l.map bodyH)
def okS (s : Int) : Bool := decide (0 ≤ s) && decide (s ≤ 1073741824)
theorem okS_nums {s : Int} (h : okS s = true) : 0 ≤ s ∧ s ≤ 1073741824 := by simpa [okS] using h
def putH (l : List Ht) (s : Int) : List UInt8 := if rightH l && okS s then rowsH l ++ frameB (lastB l.length s (rowsH l)) else []
theorem putH_right {l : List Ht} {s : Int} (h : rightH l = true) (hs : okS s = true) : putH l s = putL (l.map bodyH ++ [lastB l.length s (rowsH l)]) := by
  unfold putH
  rw [h, hs, putL_append, putL, putL, List.append_nil, putB_good (lastB_good _ _ _)]
  rfl
theorem putH_ill {l : List Ht} {s : Int} (h : rightH l = false ∨ okS s = false) : putH l s = [] := by
  unfold putH
  rcases h with h | h <;> rw [h] <;> simp
theorem rowsH_length : ∀ {l : List Ht}, (∀ h ∈ l, aloneB h = true) → (rowsH l).length = (l.map fun h => 15 + h.key.length).sum
  | [], _ => rfl
  | h :: l, ha => by
    have ih := rowsH_length (l := l) fun x hx => ha x (List.mem_cons_of_mem _ hx)
    unfold rowsH at ih ⊢
    rw [List.map_cons, putL, List.length_append, ih, putB_good (bodyH_good (ha h List.mem_cons_self)), frameB_length, bodyH_length, List.map_cons, List.sum_cons]
    omega
theorem putH_length {l : List Ht} {s : Int} (h : rightH l = true) (hs : okS s = true) : (putH l s).length = (l.map fun h => 15 + h.key.length).sum + 21 := by
  unfold putH
  rw [h, hs, if_pos (by rfl), List.length_append, rowsH_length (rightF_all h), frameB_length, lastB_length]

/-! What of bytes is got. -/
def toldH (b : List UInt8) : Ht := if b.length < 7 then Ht.none else ⟨valB (b.take 1), b.drop 7, valB ((b.take 5).drop 1), valB ((b.take 7).drop 5)⟩
def getH (b : List UInt8) (s : Int) : Option (List Ht) :=
  if okS s && decide ((allB b 0).2.1 = 0) && decide ((allB b 0).2.2.2 = 0) && decide ((allB b 0).1.length ≠ 0) then
    if rightH (((allB b 0).1.take ((allB b 0).1.length - 1)).map fun t => toldH t.2.2) && decide (((allB b 0).1.getD ((allB b 0).1.length - 1) (0, 0, [])).2.2 = lastB ((allB b 0).1.length - 1 : Nat) s (b.take ((allB b 0).1.getD ((allB b 0).1.length - 1) (0, 0, [])).1)) then
      some (((allB b 0).1.take ((allB b 0).1.length - 1)).map fun t => toldH t.2.2)
    else none
  else none
theorem seven {b : List UInt8} (h : 7 ≤ b.length) : ∃ a0 a1 a2 a3 a4 a5 a6 r, b = a0 :: a1 :: a2 :: a3 :: a4 :: a5 :: a6 :: r := by
  match b, h with
  | a0 :: a1 :: a2 :: a3 :: a4 :: a5 :: a6 :: r, _ => exact ⟨a0, a1, a2, a3, a4, a5, a6, r, rfl⟩
theorem told_bodyH {h : Ht} (ha : aloneB h = true) : toldH (bodyH h) = h := by
  have hn := alone_nums ha
  unfold toldH
  rw [if_neg (by rw [bodyH_length]; omega)]
  have e1 : (bodyH h).take 1 = numB h.kind 1 := by
    unfold bodyH; rw [List.append_assoc, List.append_assoc]; exact List.take_left' (numB_length _ _)
  have e2 : ((bodyH h).take 5).drop 1 = numB h.at_ 4 := by
    unfold bodyH
    rw [show numB h.kind 1 ++ numB h.at_ 4 ++ numB h.size 2 ++ h.key = (numB h.kind 1 ++ numB h.at_ 4) ++ (numB h.size 2 ++ h.key) by simp, List.take_left' (by rw [List.length_append, numB_length, numB_length]), List.drop_left' (numB_length _ _)]
  have e3 : ((bodyH h).take 7).drop 5 = numB h.size 2 := by
    unfold bodyH
    rw [List.take_left' (by simp only [List.length_append, numB_length]), List.drop_left' (by rw [List.length_append, numB_length, numB_length])]
  have e4 : (bodyH h).drop 7 = h.key := by
    unfold bodyH
    exact List.drop_left' (by simp only [List.length_append, numB_length])
  rw [e1, e2, e3, e4, valB_of _ _ (by omega) (by omega), valB_of _ _ (by omega) (by omega), valB_of _ _ (by omega) (by omega)]
theorem body_toldH {b : List UInt8} (ha : aloneB (toldH b) = true) : bodyH (toldH b) = b := by
  unfold toldH at ha ⊢
  by_cases h : b.length < 7
  · rw [if_pos h] at ha
    exact absurd ha (by decide)
  · rw [if_neg h]
    obtain ⟨a0, a1, a2, a3, a4, a5, a6, r, rfl⟩ := seven (b := b) (by omega)
    unfold bodyH
    dsimp only [List.take, List.drop]
    rw [show numB (valB [a0]) 1 = [a0] from numB_valB' [a0], show numB (valB [a1, a2, a3, a4]) 4 = [a1, a2, a3, a4] from numB_valB' [a1, a2, a3, a4], show numB (valB [a5, a6]) 2 = [a5, a6] from numB_valB' [a5, a6]]
    rfl
theorem its_bodies : ∀ {l : List (List UInt8)} (a : Nat), (∀ b ∈ l, Good b) → (itsL l a).map (fun t => t.2.2) = l ∧ (itsL l a).length = l.length
  | [], _, _ => ⟨rfl, rfl⟩
  | b :: l, a, h => by
    have ih := its_bodies (l := l) (a + (b.length + 8)) fun x hx => h x (List.mem_cons_of_mem _ hx)
    rw [itsL, if_pos (h b List.mem_cons_self), List.map_cons, List.length_cons, ih.1, ih.2]
    exact ⟨rfl, rfl⟩
theorem numB_inj {x y : Int} {k : Nat} (hx : 0 ≤ x ∧ x < 256 ^ k) (hy : 0 ≤ y ∧ y < 256 ^ k) (h : numB x k = numB y k) : x = y := by
  rw [← valB_of x k hx.1 hx.2, ← valB_of y k hy.1 hy.2, h]
theorem lastB_inj {c s s' : Int} {a : List UInt8} (hs : okS s = true) (hs' : okS s' = true) (h : lastB c s a = lastB c s' a) : s = s' := by
  have h1 := okS_nums hs
  have h2 := okS_nums hs'
  unfold lastB at h
  have h3 := List.append_inj_left' h rfl
  have h4 := List.append_inj_right' h3 (by rw [numB_length, numB_length])
  exact numB_inj (by omega) (by omega) h4
theorem get_putH {l : List Ht} {s : Int} (h : rightH l = true) (hs : okS s = true) (s' : Int) : getH (putH l s) s' = if s' = s then some l else none := by
  have ha := rightF_all h
  have hg : ∀ b ∈ l.map bodyH, Good b := fun b hb => by
    obtain ⟨x, hx, rfl⟩ := List.mem_map.1 hb
    exact bodyH_good (ha x hx)
  have hi := its_bodies 0 hg
  rw [List.length_map] at hi
  have hal : allB (putH l s) 0 = (itsL (l.map bodyH) 0 ++ [((rowsH l).length, 21, lastB l.length s (rowsH l))], 0, (putH l s).length, 0) := by
    rw [putH_right h hs, all_put0, itsL_append]
    congr 1
    rw [itsL, if_pos (lastB_good _ _ _), itsL, lastB_length, Nat.zero_add]
    rfl
  have hp : putH l s = rowsH l ++ frameB (lastB l.length s (rowsH l)) := by
    unfold putH
    rw [h, hs]
    rfl
  unfold getH
  rw [hal]
  dsimp only
  rw [List.length_append, hi.2, List.length_singleton, Nat.add_sub_cancel, List.take_left' hi.2, List.getD_eq_getElem?_getD, List.getElem?_append_right (by rw [hi.2]; exact Nat.le_refl _), hi.2, Nat.sub_self, List.getElem?_cons_zero, Option.getD_some]
  dsimp only
  have e1 : (itsL (l.map bodyH) 0).map (fun t => toldH t.2.2) = l := by
    rw [show (fun t : Nat × Nat × List UInt8 => toldH t.2.2) = toldH ∘ (fun t => t.2.2) from rfl, ← List.map_map, hi.1, List.map_map]
    exact (List.map_congr_left fun x hx => told_bodyH (ha x hx)).trans (List.map_id l)
  have e2 : (putH l s).take (rowsH l).length = rowsH l := by rw [hp]; exact List.take_left
  rw [e1, e2, h]
  by_cases he : s' = s
  · subst he
    rw [hs, if_pos rfl]
    simp
  · rw [if_neg he]
    by_cases hs' : okS s' = true
    · have : ¬ lastB l.length s (rowsH l) = lastB l.length s' (rowsH l) := fun e => he (lastB_inj hs hs' e).symm
      simp [hs', this]
    · rw [Bool.not_eq_true] at hs'
      simp [hs']
theorem all_whole : ∀ (N : Nat) (bs : List UInt8) (a : Nat), bs.length ≤ N → (allB bs a).2.1 = 0 → (allB bs a).2.2.2 = 0 →
    bs = putL ((allB bs a).1.map fun t => t.2.2) ∧ (∀ t ∈ (allB bs a).1, Good t.2.2) ∧ (allB bs a).1 = itsL ((allB bs a).1.map fun t => t.2.2) a
  | 0, bs, a, hN, _, _ => by
    have hb : bs = [] := List.eq_nil_of_length_eq_zero (by omega)
    subst hb
    rw [allB_nil]
    exact ⟨rfl, fun t ht => (by cases ht), rfl⟩
  | N + 1, bs, a, hN, hp, he => by
    by_cases hb : bs = []
    · subst hb
      rw [allB_nil]
      exact ⟨rfl, fun t ht => (by cases ht), rfl⟩
    obtain ⟨⟨y, k, e⟩, hf⟩ : ∃ r, firstB bs = r := ⟨_, rfl⟩
    obtain ⟨hk, hk0, _⟩ := first_size hf
    by_cases h0 : e = 0
    · subst h0
      obtain ⟨h9, hkl, hy⟩ := first_got hf
      have hgy : Good y := by
        refine Classical.byContradiction fun hn => ?_
        rw [putB_ill hn] at hy
        have := congrArg List.length hy
        rw [List.length_take, List.length_nil] at this
        omega
      rw [allB_got hb hf] at hp he ⊢
      dsimp only at hp he ⊢
      obtain ⟨h1, h2, h3⟩ := all_whole N (bs.drop k) (a + k) (by rw [List.length_drop]; omega) hp he
      have hky : k = y.length + 8 := by
        rw [putB_good hgy] at hy
        have := congrArg List.length hy
        rw [frameB_length, List.length_take] at this
        omega
      refine ⟨?_, fun t ht => ?_, ?_⟩
      · rw [List.map_cons, putL, ← h1, hy, List.take_append_drop]
      · rcases List.mem_cons.1 ht with rfl | ht
        · exact hgy
        · exact h2 t ht
      · rw [List.map_cons, itsL, if_pos hgy, ← hky, ← h3]
    · exfalso
      rcases hk with rfl | hk
      · rw [allB_stop hb hf h0] at he
        exact h0 he
      · rw [allB_bad hb hf h0 (by omega)] at hp
        simp at hp
theorem all_count {b : List UInt8} (hp : (allB b 0).2.1 = 0) (he : (allB b 0).2.2.2 = 0) : (allB b 0).1.length ≤ b.length := by
  obtain ⟨h1, h2, h3⟩ := all_whole b.length b 0 (Nat.le_refl _) hp he
  have := itsL_count ((allB b 0).1.map fun t => t.2.2) 0
  rw [← h3, ← h1] at this
  omega
theorem all_within {b : List UInt8} (hp : (allB b 0).2.1 = 0) (he : (allB b 0).2.2.2 = 0) : ∀ t ∈ (allB b 0).1, t.1 ≤ b.length ∧ t.2.2.length ≤ 8192 := by
  obtain ⟨h1, h2, h3⟩ := all_whole b.length b 0 (Nat.le_refl _) hp he
  intro t ht
  refine ⟨?_, (h2 t ht).2⟩
  rw [h3] at ht
  have := itsL_sizes _ _ _ ht
  rw [← h1] at this
  omega
theorem put_getH {b : List UInt8} {s : Int} {l : List Ht} (h : getH b s = some l) : rightH l = true ∧ okS s = true ∧ putH l s = b := by
  unfold getH at h
  split at h
  · rename_i hc
    split at h
    · rename_i hr
      simp only [Bool.and_eq_true, decide_eq_true_eq] at hc hr
      obtain ⟨⟨⟨hs, hp⟩, he⟩, hl⟩ := hc
      obtain ⟨hr, hla⟩ := hr
      obtain ⟨h1, h2, h3⟩ := all_whole b.length b 0 (Nat.le_refl _) hp he
      injection h with h
      generalize (allB b 0).1 = L at *
      have hL : L = L.take (L.length - 1) ++ [L.getD (L.length - 1) (0, 0, [])] := by
        have hlt : L.length - 1 < L.length := by omega
        rw [List.getD_eq_getElem?_getD, List.getElem?_eq_getElem hlt, Option.getD_some, ← List.take_succ_eq_append_getElem hlt, List.take_of_length_le (by omega)]
      have hlen : (L.take (L.length - 1)).length = L.length - 1 := by rw [List.length_take]; omega
      generalize L.getD (L.length - 1) (0, 0, []) = t at *
      generalize L.take (L.length - 1) = F at *
      rw [hL, List.map_append, List.map_cons, List.map_nil] at h1 h3
      have hF : F.map (fun x => x.2.2) = l.map bodyH := by
        rw [← h, List.map_map]
        refine List.map_congr_left fun x hx => ?_
        have := rightF_all hr (toldH x.2.2) (List.mem_map.2 ⟨x, hx, rfl⟩)
        exact (body_toldH this).symm
      rw [h] at hr
      rw [putL_append, putL, putL, List.append_nil, hF] at h1
      have hgt : Good t.2.2 := h2 t (by rw [hL]; simp)
      have ht1 : t.1 = (rowsH l).length := by
        rw [itsL_append, itsL, if_pos hgt, itsL, hF] at h3
        have := List.append_inj_right' h3 rfl
        injection this with this _
        rw [this, Nat.zero_add]
        rfl
      have hll : l.length = L.length - 1 := by rw [← h, List.length_map, hlen]
      have hb : b.take t.1 = rowsH l := by
        rw [h1, ht1]
        exact List.take_left
      rw [hb] at hla
      refine ⟨hr, hs, ?_⟩
      unfold putH
      rw [hr, hs, if_pos (by rfl), h1, putB_good hgt, hla, hll]
      rfl
    · cases h
  · cases h
end Go.Proofs.Ytdjlhdeejpndcaa

/-
  What Of tells, plainly: hints by their keys, in order, the last one of each; the same as a map's datum. No program in sight.
-/
namespace Go.Proofs.Ytdjlhdeejpndcaa
open Go.RowKit Go.Maps Go.Sort
set_option linter.unusedVariables false

theorem less_before : ∀ x y : List UInt8, Op.bytesLess x y = bytesBefore x y
  | [], [] => by simp [Op.bytesLess, bytesBefore]
  | [], _ :: _ => by simp [Op.bytesLess, bytesBefore]
  | _ :: _, [] => by simp [Op.bytesLess, bytesBefore]
  | x :: r, y :: s => by
    have ih := less_before r s
    simp [Op.bytesLess, bytesBefore, ih]
theorem not_later {x d : List UInt8} (h : Op.bytesLess x d = true ∨ (x == d) = true) : bytesBefore d x = false := by
  rcases h with h | h
  · rw [less_before] at h
    exact bef_asymm h
  · rw [beq_iff_eq] at h
    rw [h, bef_irrefl]
theorem is_later {x d : List UInt8} (h : Op.bytesLess x d = false ∧ (x == d) = false) : bytesBefore d x = true := by
  rw [less_before] at h
  exact bef_total h.1 (by simpa using h.2)
/-- What was found: nine cells. -/
structure Fd where
  at_ : Int
  size : Int
  kind : Int
  key : List UInt8
  id : Int
  no : Int
  sz : Int
  locs : Option Addr × Nat × Nat
  b : Option Addr × Nat × Nat
def hintOf (f : Fd) : Ht := ⟨f.kind, f.key, f.at_, f.size⟩
def toldF (f : Fd) : Bool := hintedB f.kind && keyB f.key
def hins (x : Ht) : List Ht → List Ht
  | [] => [x]
  | y :: r => if bytesBefore x.key y.key then x :: y :: r else y :: hins x r
def hdel (k : List UInt8) (l : List Ht) : List Ht := l.filter fun p => !(p.key == k)
def hput (x : Ht) (l : List Ht) : List Ht := hins x (hdel x.key l)
def hfind (k : List UInt8) (l : List Ht) : Option Ht := l.find? fun p => p.key == k
def ofP (l : List Fd) : List Ht := l.foldl (fun a f => if toldF f = true then hput (hintOf f) a else a) []
def lastP (l : List Fd) (k : List UInt8) : Option Ht := l.foldl (fun a f => if (toldF f && f.key == k) = true then some (hintOf f) else a) none
theorem ofP_snoc (l : List Fd) (f : Fd) : ofP (l ++ [f]) = if toldF f = true then hput (hintOf f) (ofP l) else ofP l := by
  unfold ofP
  rw [List.foldl_append]
  rfl
theorem lastP_snoc (l : List Fd) (f : Fd) (k : List UInt8) : lastP (l ++ [f]) k = if (toldF f && f.key == k) = true then some (hintOf f) else lastP l k := by
  unfold lastP
  rw [List.foldl_append]
  rfl
theorem mem_hins {x y : Ht} : ∀ {l : List Ht}, y ∈ hins x l ↔ y = x ∨ y ∈ l
  | [] => by simp [hins]
  | z :: r => by
    unfold hins
    split
    · simp
    · rw [List.mem_cons, mem_hins, List.mem_cons]
      constructor
      · rintro (h | h | h)
        · exact .inr (.inl h)
        · exact .inl h
        · exact .inr (.inr h)
      · rintro (h | h | h)
        · exact .inr (.inl h)
        · exact .inl h
        · exact .inr (.inr h)
theorem mem_hdel {k : List UInt8} {y : Ht} {l : List Ht} : y ∈ hdel k l ↔ y ∈ l ∧ y.key ≠ k := by
  unfold hdel
  rw [List.mem_filter]
  simp
theorem mem_hput {x y : Ht} {l : List Ht} : y ∈ hput x l ↔ y = x ∨ (y ∈ l ∧ y.key ≠ x.key) := by
  unfold hput
  rw [mem_hins, mem_hdel]
theorem hins_rise {x : Ht} : ∀ {l : List Ht}, Rising l → (∀ y ∈ l, y.key ≠ x.key) → Rising (hins x l)
  | [], _, _ => List.pairwise_singleton _ _
  | z :: r, h, hk => by
    have hz := List.pairwise_cons.1 h
    unfold hins
    split
    · rename_i hb
      refine List.Pairwise.cons (fun y hy => ?_) h
      rcases List.mem_cons.1 hy with rfl | hy
      · exact hb
      · exact bef_trans hb (hz.1 y hy)
    · rename_i hb
      refine List.Pairwise.cons (fun y hy => ?_) (hins_rise hz.2 fun y hy => hk y (List.mem_cons_of_mem _ hy))
      rcases mem_hins.1 hy with rfl | hy
      · exact bef_total (by simpa using hb) fun e => hk z List.mem_cons_self e.symm
      · exact hz.1 y hy
theorem hput_rise {x : Ht} {l : List Ht} (h : Rising l) : Rising (hput x l) := hins_rise (List.Pairwise.filter _ h) fun y hy => (mem_hdel.1 hy).2
theorem rise_key {l : List Ht} (h : Rising l) {x y : Ht} (hx : x ∈ l) (hy : y ∈ l) (hk : x.key = y.key) : x = y := by
  induction l with
  | nil => cases hx
  | cons z r ih =>
    have hz := List.pairwise_cons.1 h
    have no : ∀ u ∈ r, u.key ≠ z.key := fun u hu e => by
      have := hz.1 u hu
      rw [e, bef_irrefl] at this
      cases this
    rcases List.mem_cons.1 hx with e1 | h1 <;> rcases List.mem_cons.1 hy with e2 | h2
    · rw [e1, e2]
    · exact absurd (hk.symm.trans (congrArg Ht.key e1)) (no y h2)
    · exact absurd (hk.trans (congrArg Ht.key e2)) (no x h1)
    · exact ih hz.2 h1 h2
theorem hfind_some {k : List UInt8} {l : List Ht} {x : Ht} (h : Rising l) : hfind k l = some x ↔ x ∈ l ∧ x.key = k := by
  constructor
  · intro hf
    exact ⟨List.mem_of_find?_eq_some hf, by simpa using List.find?_some hf⟩
  · rintro ⟨hm, hk⟩
    unfold hfind
    cases hf : l.find? fun p => p.key == k with
    | none =>
      have := List.find?_eq_none.1 hf x hm
      simp [hk] at this
    | some y =>
      have h1 := List.mem_of_find?_eq_some hf
      have h2 : y.key = k := by simpa using List.find?_some hf
      rw [rise_key h h1 hm (h2.trans hk.symm)]
theorem hfind_put {x : Ht} {l : List Ht} (h : Rising l) (k : List UInt8) : hfind k (hput x l) = if x.key = k then some x else hfind k l := by
  by_cases hk : x.key = k
  · rw [if_pos hk]
    exact (hfind_some (hput_rise h)).2 ⟨mem_hput.2 (.inl rfl), hk⟩
  · rw [if_neg hk]
    cases hf : hfind k l with
    | some y =>
      obtain ⟨h1, h2⟩ := (hfind_some h).1 hf
      exact (hfind_some (hput_rise h)).2 ⟨mem_hput.2 (.inr ⟨h1, fun e => hk (e.symm.trans h2)⟩), h2⟩
    | none =>
      cases hg : hfind k (hput x l) with
      | none => rfl
      | some y =>
        obtain ⟨h1, h2⟩ := (hfind_some (hput_rise h)).1 hg
        rcases mem_hput.1 h1 with rfl | ⟨h1, _⟩
        · exact absurd h2 hk
        · rw [(hfind_some h).2 ⟨h1, h2⟩] at hf
          cases hf
theorem list_snoc {α : Type} {p : List α → Prop} (h0 : p []) (hs : ∀ l a, p l → p (l ++ [a])) (l : List α) : p l := by
  have : ∀ n, ∀ l : List α, l.length = n → p l := by
    intro n
    induction n with
    | zero => intro l hl; rw [List.eq_nil_of_length_eq_zero hl]; exact h0
    | succ n ih =>
      intro l hl
      have hne : l ≠ [] := fun e => by rw [e] at hl; cases hl
      rw [← List.dropLast_concat_getLast hne]
      exact hs _ _ (ih _ (by rw [List.length_dropLast]; omega))
  exact this _ l rfl
theorem ofP_rise (l : List Fd) : Rising (ofP l) := by
  refine list_snoc (p := fun l => Rising (ofP l)) List.Pairwise.nil (fun l f h => ?_) l
  rw [ofP_snoc]
  split
  · exact hput_rise h
  · exact h
theorem ofP_find (l : List Fd) (k : List UInt8) : hfind k (ofP l) = lastP l k := by
  refine list_snoc (p := fun l => hfind k (ofP l) = lastP l k) rfl (fun l f h => ?_) l
  rw [ofP_snoc, lastP_snoc]
  by_cases ht : toldF f = true
  · rw [if_pos ht, hfind_put (ofP_rise l), h, ht]
    by_cases hk : f.key = k
    · rw [if_pos (show (hintOf f).key = k from hk), if_pos (by simp [hk])]
    · rw [if_neg (show ¬ (hintOf f).key = k from hk), if_neg (by simp [hk])]
  · rw [if_neg ht, h]
    rw [Bool.not_eq_true] at ht
    rw [ht, if_neg (by simp)]
theorem mem_ofP {l : List Fd} {h : Ht} : h ∈ ofP l ↔ lastP l h.key = some h := by
  rw [← ofP_find, hfind_some (ofP_rise l)]
  simp
theorem ofP_told {l : List Fd} : ∀ h ∈ ofP l, hintedB h.kind = true ∧ keyB h.key = true := by
  refine list_snoc (p := fun l => ∀ h ∈ ofP l, hintedB h.kind = true ∧ keyB h.key = true) (fun h hh => by cases hh) (fun l f ih h hh => ?_) l
  rw [ofP_snoc] at hh
  split at hh
  · rename_i ht
    rcases mem_hput.1 hh with rfl | ⟨hh, _⟩
    · simpa [toldF, hintOf] using ht
    · exact ih h hh
  · exact ih h hh
theorem ofP_length (l : List Fd) : (ofP l).length ≤ l.length := by
  refine list_snoc (p := fun l => (ofP l).length ≤ l.length) (Nat.le_refl _) (fun l f h => ?_) l
  rw [ofP_snoc, List.length_append, List.length_singleton]
  have hi : ∀ (x : Ht) (l : List Ht), (hins x l).length = l.length + 1 := by
    intro x l
    induction l with
    | nil => rfl
    | cons y r ih =>
      unfold hins
      split
      · rfl
      · rw [List.length_cons, ih, List.length_cons]
  split
  · unfold hput
    rw [hi]
    have : (hdel (hintOf f).key (ofP l)).length ≤ (ofP l).length := List.length_filter_le _ _
    omega
  · omega
/-- Two that rise and have the same ones are one. -/
theorem rise_same : ∀ {a b : List Ht}, Rising a → Rising b → (∀ h, h ∈ a ↔ h ∈ b) → a = b
  | [], [], _, _, _ => rfl
  | [], y :: b, _, _, h => by have := (h y).2 List.mem_cons_self; cases this
  | x :: a, [], _, _, h => by have := (h x).1 List.mem_cons_self; cases this
  | x :: a, y :: b, ha, hb, h => by
    have h1 := List.pairwise_cons.1 ha
    have h2 := List.pairwise_cons.1 hb
    have e : x = y := by
      rcases List.mem_cons.1 ((h x).1 List.mem_cons_self) with e | hx
      · exact e
      · rcases List.mem_cons.1 ((h y).2 List.mem_cons_self) with e | hy
        · exact e.symm
        · have k1 := h1.1 y hy
          have k2 := h2.1 x hx
          rw [bef_asymm k1] at k2
          cases k2
    subst e
    have no1 : ∀ u ∈ a, u ≠ x := fun u hu e => by
      have := h1.1 u hu
      rw [e, bef_irrefl] at this
      cases this
    have no2 : ∀ u ∈ b, u ≠ x := fun u hu e => by
      have := h2.1 u hu
      rw [e, bef_irrefl] at this
      cases this
    rw [rise_same h1.2 h2.2 fun u => ⟨fun hu => ?_, fun hu => ?_⟩]
    · rcases List.mem_cons.1 ((h u).1 (List.mem_cons_of_mem _ hu)) with e | hu'
      · exact absurd e (no1 u hu)
      · exact hu'
    · rcases List.mem_cons.1 ((h u).2 (List.mem_cons_of_mem _ hu)) with e | hu'
      · exact absurd e (no2 u hu)
      · exact hu'

/-! Hints as values, as a map's datum. -/
section
variable {H : Type}
def htE (h : Ht) : List Value := [.int .i64 h.kind, .string ⟨h.key.toArray⟩, .int .i64 h.at_, .int .i64 h.size]
def htV (h : Ht) : Value := .agg #[.int .i64 h.kind, .string ⟨h.key.toArray⟩, .int .i64 h.at_, .int .i64 h.size]
def htD (h : Ht) : DataW H := .agg [.lit (.int .i64 h.kind), .lit (.string h.key), .lit (.int .i64 h.at_), .lit (.int .i64 h.size)]
def htR (v : Value) : Option (DataW H × List MemPlace) := match v with
  | .agg cs => match cs.toList with
    | [.int .i64 k, .string s, .int .i64 a, .int .i64 z] => some (htD ⟨k, s.data.toList, a, z⟩, [])
    | _ => none
  | _ => none
theorem htR_mk (h : Ht) : htR (H := H) (htV h) = some (htD h, []) := by simp [htR, htV]
theorem htR_inv {v : Value} {y : DataW H × List MemPlace} (h : htR v = some y) : ∃ x : Ht, v = htV x ∧ y = (htD x, []) := by
  unfold htR at h
  split at h
  · rename_i cs
    split at h
    · rename_i k s a z hc
      injection h with h
      refine ⟨⟨k, s.data.toList, a, z⟩, ?_, h.symm⟩
      unfold htV
      congr 1
      rw [← Array.toArray_toList (xs := cs), hc]
    · cases h
  · cases h
theorem htD_inj {x y : Ht} (h : htD (H := H) x = htD y) : x = y := by
  obtain ⟨a, b, c, d⟩ := x
  obtain ⟨a', b', c', d'⟩ := y
  unfold htD at h
  simp only [DataW.agg.injEq, List.cons.injEq, DataW.lit.injEq, Lit.int.injEq, Lit.string.injEq, and_true, true_and] at h
  obtain ⟨rfl, rfl, rfl, rfl⟩ := h
  rfl
def encH (l : List Ht) : DataW H := .map (l.map fun p => (.string p.key, htD p))
theorem insert_encH (x : Ht) : ∀ l : List Ht, DataW.insert (H := H) (.string x.key, htD x) (l.map fun p => (.string p.key, htD p)) = (hins x l).map fun p => (.string p.key, htD p)
  | [] => rfl
  | y :: r => by
    show (if bytesBefore x.key y.key then _ else _) = _
    unfold hins
    by_cases h : bytesBefore x.key y.key = true
    · rw [if_pos h, if_pos h]; rfl
    · rw [if_neg h, if_neg h, List.map_cons, ← insert_encH x r]
theorem put_encH (x : Ht) (l : List Ht) : (encH (H := H) l).put (.string x.key) (htD x) = encH (hput x l) := by
  unfold encH DataW.put hput hdel
  simp only [List.filter_map]
  show DataW.map (DataW.insert _ (List.map _ _)) = _
  rw [insert_encH]
  rfl
theorem at_encH (k : List UInt8) (l : List Ht) (z : DataW H) : (encH l).atKey (.string k) z = match hfind k l with
    | some x => htD x
    | none => z := by
  unfold encH DataW.atKey hfind
  simp only [List.find?_map]
  have : ((fun p : Lit × DataW H => p.1.sameKey (.string k)) ∘ fun p : Ht => ((Lit.string p.key, htD p) : Lit × DataW H)) = fun p => p.key == k := rfl
  rw [this]
  cases List.find? (fun p : Ht => p.key == k) l <;> rfl
theorem has_encH (k : List UInt8) (l : List Ht) : Maps.has (encH (H := H) l) (.string k) = (hfind k l).isSome := by
  unfold encH hfind
  rw [Maps.has_eq, List.any_map]
  have : ((fun p : Lit × DataW H => p.1.sameKey (.string k)) ∘ fun p : Ht => ((Lit.string p.key, htD p) : Lit × DataW H)) = fun p => p.key == k := rfl
  rw [this]
  cases h : List.find? (fun p : Ht => p.key == k) l with
  | none =>
    have := List.find?_eq_none.1 h
    simpa using this
  | some p =>
    have h1 := List.find?_some h
    have h2 := List.mem_of_find?_eq_some h
    exact List.any_eq_true.2 ⟨p, h2, h1⟩
theorem size_encH (l : List Ht) : Maps.size (encH (H := H) l) = l.length := by simp [encH, Maps.size]
theorem keys_encH (l : List Ht) : strKeys (encH (H := H) l) = l.map (·.key) := by
  simp only [encH, strKeys, List.map_map]
  rfl
end
end Go.Proofs.Ytdjlhdeejpndcaa
