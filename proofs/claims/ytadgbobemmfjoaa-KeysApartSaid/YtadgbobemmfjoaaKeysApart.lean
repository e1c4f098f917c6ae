/-
  Statement KeysApart: whatever is done to other keys, a key's place stays, and the order of all others does. Every list of calls and every key, no condition.
-/
import Derived.Test.YtadgbobemmfjoaaKsTwo
import Derived.Test.YtadgbobemmfjoaaText
import Derived.ProofKit
import Derived.ChangeOld
namespace Go.Proofs.Ytadgbobemmfjoaa
open Go.ChangeShapes Go.WideShapes Go.ChangeAt Go.RowKit
set_option linter.unusedSimpArgs false
set_option linter.unusedVariables false
attribute [local irreducible] wpF

theorem klen_del (key : List UInt8) (L : List Pl) {i : Nat} (h : L.length ≤ i) : (delL key L).length ≤ i + 1 := by have := delL_len key L; omega
theorem klen_put (p : Pl) (L : List Pl) {i : Nat} (h : L.length ≤ i) : (kputL p L).length ≤ i + 1 := by have := putL_len p L; omega

theorem kadd (g j : Nat) : (⟨g, 0, none⟩ : Addr).add j = ⟨g, j, none⟩ := by unfold Addr.add; split <;> simp_all
theorem grown_grows {w5 w6 w7 : World} {A : Option Addr} {n c : Nat} {l : Ks} (hg : Grows w5 w6) (ho : OwnS w6 w5.heap.size A n c l) (h : w6.grownBy w7 (Value.slice A n c).ownBlock) : Grows w5 w7 :=
  Below.grown (Below.mono hg (Nat.le_refl _)) h hg.size fun k hk => (owned_lt3 ho hk).1
/-- One has what the other has, and one key more. -/
structure Apt (key : List UInt8) (La Lb : List Pl) : Prop where
  ia : Inc La
  ib : Inc Lb
  mem : ∀ p, p ∈ La ↔ p = plc key 7 ∨ p ∈ Lb
  off : ∀ p ∈ Lb, p.key ≠ key
theorem Apt.begin (key : List UInt8) : Apt key (kputL (plc key 7) []) [] := by
  refine ⟨Inc.put List.Pairwise.nil _, List.Pairwise.nil, fun p => ?_, fun p hp => by cases hp⟩
  rw [mem_putL]
  constructor
  · rintro (h | ⟨h, _⟩)
    · exact .inl h
    · cases h
  · rintro (h | h)
    · exact .inl h
    · cases h
theorem Apt.put {key : List UInt8} {La Lb : List Pl} (h : Apt key La Lb) {p : Pl} (hp : p.key ≠ key) : Apt key (kputL p La) (kputL p Lb) := by
  refine ⟨h.ia.put p, h.ib.put p, fun q => ?_, fun q hq => ?_⟩
  · rw [mem_putL, mem_putL, h.mem]
    constructor
    · rintro (e | ⟨e | e, e2⟩)
      · exact .inr (.inl e)
      · exact .inl e
      · exact .inr (.inr ⟨e, e2⟩)
    · rintro (e | e | ⟨e, e2⟩)
      · exact .inr ⟨.inl e, by rw [e]; exact fun h => hp h.symm⟩
      · exact .inl e
      · exact .inr ⟨.inr e, e2⟩
  · rcases mem_putL.1 hq with rfl | ⟨hq, _⟩
    · exact hp
    · exact h.off q hq
theorem Apt.del {key k : List UInt8} {La Lb : List Pl} (h : Apt key La Lb) (hp : k ≠ key) : Apt key (delL k La) (delL k Lb) := by
  refine ⟨h.ia.del k, h.ib.del k, fun q => ?_, fun q hq => h.off q (mem_delL.1 hq).1⟩
  rw [mem_delL, mem_delL, h.mem]
  constructor
  · rintro ⟨e | e, e2⟩
    · exact .inl e
    · exact .inr ⟨e, e2⟩
  · rintro (e | ⟨e, e2⟩)
    · exact ⟨.inl e, by rw [e]; exact fun h => hp h.symm⟩
    · exact ⟨.inr e, e2⟩
theorem Apt.geta {key : List UInt8} {La Lb : List Pl} (h : Apt key La Lb) : getL key La = some (plc key 7) := (getL_some h.ia.uniq).2 ⟨(h.mem _).2 (.inl rfl), rfl⟩
theorem Apt.getb {key : List UInt8} {La Lb : List Pl} (h : Apt key La Lb) : getL key Lb = none := getL_none.2 h.off
theorem Apt.len {key : List UInt8} {La Lb : List Pl} (h : Apt key La Lb) : La.length = Lb.length + 1 := by
  have h1 : Uniq (plc key 7 :: Lb) := List.pairwise_cons.2 ⟨fun p hp e => h.off p hp e.symm, h.ib.uniq⟩
  have h2 := uniq_len h.ia.uniq h1 fun p => by rw [h.mem, List.mem_cons]
  simpa using h2
theorem Apt.rest {key : List UInt8} {La Lb : List Pl} (h : Apt key La Lb) : (La.map (·.key)).filter (fun k => !(k == key)) = Lb.map (·.key) := by
  have h1 : La.filter (fun p => !(p.key == key)) = Lb := by
    refine Inc.ext (List.Pairwise.filter _ h.ia) h.ib fun p => ?_
    rw [List.mem_filter, h.mem]
    constructor
    · rintro ⟨rfl | e, e2⟩
      · simp [plc] at e2
      · exact e
    · intro e
      exact ⟨.inr e, by simpa using h.off p e⟩
  rw [List.filter_map]
  conv => rhs; rw [← h1]
  rfl
def restK (key : List UInt8) (l : Ks) : Ks := l.filter fun k => !(k == key)
theorem restK_step {key x : List UInt8} {l : Ks} {i : Nat} (h : l[i]? = some x) : restK key (l.take (i + 1)) = if x == key then restK key (l.take i) else restK key (l.take i) ++ [x] := by
  unfold restK
  rw [List.take_add_one, h, List.filter_append]
  by_cases e : x = key
  · simp [e]
  · have : (x == key) = false := by simpa using e
    simp [this]
set_option maxRecDepth 100000 in
set_option maxHeartbeats 8000000 in
theorem keysApart_law (w : World) (A : Option Addr) (n c : Nat) (os : List O13) (hx : Ops13 w A n c os) (key : List UInt8) (hkey : key.length ≤ 9223372036854775807) :
    Calls Try.prog 7 #[.slice A n c, .string ⟨key.toArray⟩] w fun e w' => e = .returned (.bool true) ∧ Below w.heap.size w w' := by
  have HO := Lib.hid hx
  clear hx
  go_enter Try.func7, Try.ntmps7
  go_wp2_with (fail)
  refine (head13_any w).mono ?_
  rintro e w1 ⟨rfl, hg1⟩
  have HG1 := Lib.hid hg1
  clear hg1
  go_wp2_with (fail)
  refine (new_in (B := w.heap.size) (out := fun _ => False) HG1.out HG1.out.size (fun k hk => hk.elim)).mono ?_
  rintro e w2 ⟨a, rfl, hk2, hg2⟩
  have H2 := Lib.hid hk2
  clear hk2 hg2
  go_wp2_with (fail)
  refine H2.out.second.mono ?_
  rintro e w2b ⟨b, rfl, hk2, hg2⟩
  have H2 := Lib.hid hk2
  clear hk2 hg2
  have HGT := Lib.hid (great13_any A n c os w2b (HO.out.grow H2.out.low))
  go_wp2_with (fail)
  refine HGT.out.mono ?_
  rintro e w3 (⟨rfl, rfl⟩ | ⟨rfl, hn300, hsh, rfl⟩)
  · go_wp2_with (fail)
    go_ret
    exact ⟨rfl, H2.out.low⟩
  by_cases hbig : 900 < key.length
  · have HLN := Lib.hid hbig
    clear hsh
    go_wp2_with (fail)
    go_ret
    exact ⟨rfl, H2.out.low⟩
  have HKL := Lib.hid (show key.length ≤ 900 from by omega)
  have HSH := Lib.hid hsh
  clear hsh
  go_wp2_with (fail)
  refine (place_any key 7 w3).mono ?_
  rintro e w4 ⟨rfl, hg4⟩
  have HPA := Lib.hid (show Calls Try.prog 20 #[.pointer (some ⟨a, 0, none⟩), .agg #[.int .i64 7, .int .i64 3, .string ⟨key.toArray⟩, .int .i64 13, .int .i64 20]] w4 fun e w' => e = .returned (plTo none) ∧ KTwo w.heap.size w w' a b (fun _ => False) (kputL (plc key 7) []) [] ∧ KStays w.heap.size (fun _ => False) w4 w' from put_two (plc key 7) (H2.out.grow hg4) (by show key.length ≤ _; have := HKL.out; omega) (by show 0 < _; omega) rfl rfl)
  clear hg4
  unfold plV plc
  dsimp only
  go_wp2_with (fail)
  refine HPA.out.mono ?_
  rintro e w5 ⟨rfl, hk5, _⟩
  have HJ0 := Lib.hid (And.intro hk5 (And.intro (Apt.begin key) (show (kputL (plc key 7) []).length ≤ 0 + 1 from Nat.le_refl _)))
  clear hk5
  go_wp2_with (fail)
  go_loopw [8] (fun vi wr => ∃ (i : Nat) (La Lb : List Pl), i ≤ n ∧ vi = .int .i64 (i : Int) ∧ Hid (KTwo w.heap.size w wr a b (fun _ => False) La Lb ∧ Apt key La Lb ∧ La.length ≤ i + 1)) (fun vi _ => n - (intOf vi).toNat)
  case atStart => exact ⟨0, _, [], Nat.zero_le _, rfl, HJ0⟩
  case round =>
    obtain ⟨i, La, Lb, hi, rfl, HJ⟩ := hrel
    by_cases hlt : i < n
    · obtain ⟨ad, ⟨qw, ⟨q0, q1, q2, q3, q4⟩, qn⟩, rfl, ho, hbl, hok, hcs⟩ := Ops13.at (HO.out.grow HJ.out.1.low) hlt
      obtain ⟨c0, c1, c2, c3, c4, c5, c6⟩ := hcs wr (Grows.refl _)
      dsimp only at c0 c1 c2 c3 c4 c5 c6
      have k0 : (0 : Int) ≤ (i : Int) := by omega
      have k1 : (i : Int) < (n : Int) := by omega
      have HQK := Lib.hid (show q2.length < 9000 from HSH.out i _ hlt ho)
      have hg1 := grows_alloc wr (.cells #[.int .i64 qw, .int .i64 q0, .int .i64 q1, .string ⟨q2.toArray⟩, .int .i64 q3, .int .i64 q4, .int .i64 qn] 34)
      have hm1 := Whole.made wr 34 #[.int .i64 qw, .int .i64 q0, .int .i64 q1, .string ⟨q2.toArray⟩, .int .i64 q3, .int .i64 q4, .int .i64 qn]
      obtain ⟨W1, hW1⟩ : ∃ W, wr.alloc (.cells #[.int .i64 qw, .int .i64 q0, .int .i64 q1, .string ⟨q2.toArray⟩, .int .i64 q3, .int .i64 q4, .int .i64 qn] 34) = W := ⟨_, rfl⟩
      rw [hW1] at hg1 hm1
      obtain ⟨ob, hob⟩ : ∃ b, wr.heap.size = b := ⟨_, rfl⟩
      rw [hob] at hm1
      have HW1 := Lib.hid (And.intro hg1 (And.intro hm1 (show ob = wr.heap.size from hob.symm)))
      have qq := HW1.out.2.1
      have e0 := qq.cell 0
      have e1 := qq.cell 1
      have e2 := qq.cell 2
      have e3 := qq.cell 3
      have e4 := qq.cell 4
      have e5 := qq.cell 5
      have e6 := qq.cell 6
      simp only [List.getElem?_toArray, List.getElem?_cons_zero, List.getElem?_cons_succ] at e0 e1 e2 e3 e4 e5 e6
      clear qq
      have hke := key_eq q2 key
      clear ho hbl hok hcs hg1 hm1
      rcases howe : (q2 == key) with _ | _
      · have HNE := Lib.hid (show q2 ≠ key from by simpa using howe)
        by_cases h3 : qw = 3
        · have h3b : (qw == 3) = true := by simpa using h3
          clear h3
          have HCA := Lib.hid (show Calls Try.prog 13 #[.pointer (some ⟨a, 0, none⟩), .string ⟨q2.toArray⟩] W1 fun e w' => e = .returned (plTo (getL q2 La)) ∧ KTwo w.heap.size w w' a b (fun k => False ∨ (wr.heap.size ≤ k ∧ k < W1.heap.size)) (delL q2 La) Lb ∧ KStays w.heap.size (fun k => False ∨ (wr.heap.size ≤ k ∧ k < W1.heap.size)) W1 w' from del_two q2 (HJ.out.1.more HW1.out.1) (by show q2.length ≤ _; have := HQK.out; omega) (by have := HJ.out.2.2; omega) rfl rfl)
          go_wp2_with (first | rw [hW1] | fail)
          refine HCA.out.mono ?_
          rintro e w4 ⟨rfl, hk4, hs4⟩
          have hmo : Whole w4 ob 34 #[.int .i64 qw, .int .i64 q0, .int .i64 q1, .string ⟨q2.toArray⟩, .int .i64 q3, .int .i64 q4, .int .i64 qn] := (hs4.keep HW1.out.2.1.lt (.inr (.inr ⟨by have := HW1.out.2.2; omega, HW1.out.2.1.lt⟩))).trans HW1.out.2.1
          have HCB := Lib.hid (show Calls Try.prog 13 #[.pointer (some ⟨b, 0, none⟩), .string ⟨q2.toArray⟩] w4 fun e w' => e = .returned (plTo (getL q2 Lb)) ∧ KTwo w.heap.size w w' b a (fun k => False ∨ (wr.heap.size ≤ k ∧ k < W1.heap.size)) (delL q2 Lb) (delL q2 La) ∧ KStays w.heap.size (fun k => False ∨ (wr.heap.size ≤ k ∧ k < W1.heap.size)) w4 w' from del_two q2 hk4.symm (by show q2.length ≤ _; have := HQK.out; omega) (by have := HJ.out.2.2; have := HJ.out.2.1.len; omega) rfl rfl)
          have H4 := Lib.hid hmo
          clear hk4 hs4 hmo HCA e0 e1 e2 e3 e4 e5 e6 c0 c1 c2 c3 c4 c5 c6 hW1
          have qq := H4.out
          have f0 := qq.cell 0
          have f1 := qq.cell 1
          have f2 := qq.cell 2
          have f3 := qq.cell 3
          have f4 := qq.cell 4
          have f5 := qq.cell 5
          have f6 := qq.cell 6
          simp only [List.getElem?_toArray, List.getElem?_cons_zero, List.getElem?_cons_succ] at f0 f1 f2 f3 f4 f5 f6
          clear qq
          go_wp2_with (fail)
          refine HCB.out.mono ?_
          rintro e w5 ⟨rfl, hk5, _⟩
          have H5 := Lib.hid (hk5.symm.less (out' := fun _ => False) fun k hk => hk.elim)
          clear hk5 HCB
          go_wp2_with (fail)
          go_roundw
          case rel => exact ⟨i + 1, delL q2 La, delL q2 Lb, by omega, by first | rfl | go_num, Lib.hid ⟨H5.out, HJ.out.2.1.del HNE.out, by have h1 := klen_del q2 La HJ.out.2.2; omega⟩⟩
          case measure => simp [intOf]; omega
        · have h3b : (qw == 3) = false := by simpa using h3
          clear h3
          have HCA := Lib.hid (show Calls Try.prog 20 #[.pointer (some ⟨a, 0, none⟩), .agg #[.int .i64 q0, .int .i64 q1, .string ⟨q2.toArray⟩, .int .i64 q3, .int .i64 q4]] W1 fun e w' => e = .returned (plTo (getL q2 La)) ∧ KTwo w.heap.size w w' a b (fun k => False ∨ (wr.heap.size ≤ k ∧ k < W1.heap.size)) (kputL ⟨q0, q1, q2, q3, q4⟩ La) Lb ∧ KStays w.heap.size (fun k => False ∨ (wr.heap.size ≤ k ∧ k < W1.heap.size)) W1 w' from put_two ⟨q0, q1, q2, q3, q4⟩ (HJ.out.1.more HW1.out.1) (by show q2.length ≤ _; have := HQK.out; omega) (by have := HJ.out.2.2; omega) rfl rfl)
          go_wp2_with (first | rw [hW1] | fail)
          refine HCA.out.mono ?_
          rintro e w4 ⟨rfl, hk4, hs4⟩
          have hmo : Whole w4 ob 34 #[.int .i64 qw, .int .i64 q0, .int .i64 q1, .string ⟨q2.toArray⟩, .int .i64 q3, .int .i64 q4, .int .i64 qn] := (hs4.keep HW1.out.2.1.lt (.inr (.inr ⟨by have := HW1.out.2.2; omega, HW1.out.2.1.lt⟩))).trans HW1.out.2.1
          have HCB := Lib.hid (show Calls Try.prog 20 #[.pointer (some ⟨b, 0, none⟩), .agg #[.int .i64 q0, .int .i64 q1, .string ⟨q2.toArray⟩, .int .i64 q3, .int .i64 q4]] w4 fun e w' => e = .returned (plTo (getL q2 Lb)) ∧ KTwo w.heap.size w w' b a (fun k => False ∨ (wr.heap.size ≤ k ∧ k < W1.heap.size)) (kputL ⟨q0, q1, q2, q3, q4⟩ Lb) (kputL ⟨q0, q1, q2, q3, q4⟩ La) ∧ KStays w.heap.size (fun k => False ∨ (wr.heap.size ≤ k ∧ k < W1.heap.size)) w4 w' from put_two ⟨q0, q1, q2, q3, q4⟩ hk4.symm (by show q2.length ≤ _; have := HQK.out; omega) (by have := HJ.out.2.2; have := HJ.out.2.1.len; omega) rfl rfl)
          have H4 := Lib.hid hmo
          clear hk4 hs4 hmo HCA e0 e1 e2 e3 e4 e5 e6 c0 c1 c2 c3 c4 c5 c6 hW1
          have qq := H4.out
          have f0 := qq.cell 0
          have f1 := qq.cell 1
          have f2 := qq.cell 2
          have f3 := qq.cell 3
          have f4 := qq.cell 4
          have f5 := qq.cell 5
          have f6 := qq.cell 6
          simp only [List.getElem?_toArray, List.getElem?_cons_zero, List.getElem?_cons_succ] at f0 f1 f2 f3 f4 f5 f6
          clear qq
          go_wp2_with (fail)
          refine HCB.out.mono ?_
          rintro e w5 ⟨rfl, hk5, _⟩
          have H5 := Lib.hid (hk5.symm.less (out' := fun _ => False) fun k hk => hk.elim)
          clear hk5 HCB
          go_wp2_with (fail)
          go_roundw
          case rel => exact ⟨i + 1, kputL ⟨q0, q1, q2, q3, q4⟩ La, kputL ⟨q0, q1, q2, q3, q4⟩ Lb, by omega, by first | rfl | go_num, Lib.hid ⟨H5.out, HJ.out.2.1.put (p := ⟨q0, q1, q2, q3, q4⟩) HNE.out, by have h1 := klen_put ⟨q0, q1, q2, q3, q4⟩ La HJ.out.2.2; omega⟩⟩
          case measure => simp [intOf]; omega
      · go_wp2_with (first | rw [hW1] | fail)
        go_roundw
        case rel => exact ⟨i + 1, La, Lb, by omega, by first | rfl | go_num, Lib.hid ⟨HJ.out.1.grow HW1.out.1, HJ.out.2.1, by have := HJ.out.2.2; omega⟩⟩
        case measure => simp [intOf]; omega
    · obtain ⟨M, hM⟩ : ∃ M, La.length = M := ⟨_, rfl⟩
      have hM300 : M ≤ 301 := by have := HJ.out.2.2; omega
      have HK5 := Lib.hid (And.intro HJ.out.1 (And.intro hM (And.intro hM300 HJ.out.2.1)))
      obtain ⟨zz, hzz⟩ : ∃ z : Int, 0 = z := ⟨0, rfl⟩
      have HZZ := Lib.hid hzz
      have HGA := Lib.hid (show Calls Try.prog 15 #[.pointer (some ⟨a, 0, none⟩), .string ⟨key.toArray⟩] wr fun e w' => e = .returned (.tuple #[.agg #[.int .i64 7, .int .i64 3, .string ⟨key.toArray⟩, .int .i64 13, .int .i64 20], .bool true]) ∧ Grows wr w' from get_at key HK5.out.1.fst (by have := HKL.out; omega) (by have := HK5.out.2; omega) HK5.out.2.2.2.geta)
      clear hM hzz
      go_wp2_with (fail)
      refine HGA.out.mono ?_
      rintro e w6 ⟨rfl, hg6⟩
      have hm7 := Whole.made w6 32 #[.int .i64 7, .int .i64 3, .string ⟨key.toArray⟩, .int .i64 13, .int .i64 20]
      have hg7 := grows_alloc w6 (.cells #[.int .i64 7, .int .i64 3, .string ⟨key.toArray⟩, .int .i64 13, .int .i64 20] 32)
      obtain ⟨W7, hW7⟩ : ∃ W, w6.alloc (.cells #[.int .i64 7, .int .i64 3, .string ⟨key.toArray⟩, .int .i64 13, .int .i64 20] 32) = W := ⟨_, rfl⟩
      rw [hW7] at hm7 hg7
      obtain ⟨vb, hvb⟩ : ∃ b, w6.heap.size = b := ⟨_, rfl⟩
      rw [hvb] at hm7
      have hgg := Grows.trans hg6 hg7
      have HGB := Lib.hid (show Calls Try.prog 15 #[.pointer (some ⟨b, 0, none⟩), .string ⟨key.toArray⟩] W7 fun e w' => e = .returned (.tuple #[.agg #[.int .i64 0, .int .i64 0, .string ⟨#[]⟩, .int .i64 0, .int .i64 zz], .bool false]) ∧ Grows W7 w' from by
        have hz := HZZ.out; subst hz
        exact get_at key (HK5.out.1.grow hgg).snd (by have := HKL.out; omega) (by have := HK5.out.2; have := HK5.out.2.2.2.len; omega) HK5.out.2.2.2.getb)
      have H7 := Lib.hid (And.intro hgg hm7)
      clear hg6 hm7 hg7 hgg
      go_wp2_with (first | rw [hW7] | fail)
      clear hW7 hvb
      refine HGB.out.mono ?_
      rintro e w8 ⟨rfl, hg8⟩
      have hg9 := grows_alloc w8 (.cells #[.int .i64 0, .int .i64 0, .string ⟨#[]⟩, .int .i64 0, .int .i64 zz] 32)
      obtain ⟨W9, hW9⟩ : ∃ W, w8.alloc (.cells #[.int .i64 0, .int .i64 0, .string ⟨#[]⟩, .int .i64 0, .int .i64 zz] 32) = W := ⟨_, rfl⟩
      rw [hW9] at hg9
      have hgg := Grows.trans hg8 hg9
      have HLI := Lib.hid (list_at (HK5.out.1.grow (Grows.trans H7.out.1 hgg)).fst (by have := HK5.out.2; omega) rfl)
      have H9 := Lib.hid (And.intro (Grows.trans H7.out.1 hgg) (hgg.whole H7.out.2))
      clear hg8 hg9 hgg
      go_wp2_with (first | rw [hW9] | fail)
      clear hW9
      refine HLI.out.mono ?_
      rintro e w10 ⟨AL, ml, cl, rfl, ho10, hg10⟩
      have hml := OwnS.len ho10
      rw [List.length_map, HK5.out.2.1] at hml
      subst hml
      have hcap10 := OwnS.cap ho10
      have H10 := Lib.hid (And.intro ho10 (And.intro (Grows.trans H9.out.1 hg10) (hg10.whole H9.out.2)))
      clear ho10 hg10 HLI hi hlt HJ
      go_wp2_with (fail)
      go_loopw [14, 16] (fun vw vi wr => ∃ (i : Nat) (AW : Option Addr) (cW nW : Nat), i ≤ M ∧ vi = .int .i64 (i : Int) ∧ vw = .slice AW nW cW ∧ Hid ((restK key ((La.map (·.key)).take i)).length = nW ∧ OwnS wr w10.heap.size AW nW cW (restK key ((La.map (·.key)).take i)) ∧ Grows w10 wr)) (fun _ vi _ => M - (intOf vi).toNat)
      case atStart => exact ⟨0, none, 0, 0, Nat.zero_le _, rfl, rfl, Lib.hid ⟨rfl, ⟨rfl, .inl ⟨rfl, rfl⟩⟩, Grows.refl _⟩⟩
      case round =>
        obtain ⟨i, AW, cW, nW, hi3, rfl, rfl, HT⟩ := hrel
        by_cases hlt3 : i < M
        · obtain ⟨x, hxk⟩ : ∃ k', (La.map (·.key))[i]? = some k' := ⟨_, List.getElem?_eq_getElem (by rw [List.length_map]; have := HK5.out.2; omega)⟩
          obtain ⟨ga, rfl⟩ : ∃ ga, AL = some ⟨ga, 0, none⟩ := by
            rcases H10.out.1.2 with ⟨e, e2⟩ | ⟨g, cap, cur, e, _⟩
            · omega
            · injection e with e1 e2 e3; exact ⟨g, e1⟩
          have hst := restK_step (key := key) hxk
          have HTL := Lib.hid (show nW ≤ 301 from by
            have h1 : (restK key ((La.map (·.key)).take i)).length ≤ ((La.map (·.key)).take i).length := List.length_filter_le _ _
            rw [List.length_take, List.length_map] at h1
            have := HT.out.1
            have := HK5.out.2
            omega)
          have hcx : ∀ w', Grows w10 w' → w'.cell? ⟨ga, i, none⟩ = some (.string ⟨x.toArray⟩) := fun w' hg => by
            have h1 := (owned_grow H10.out.1 hg).cells (g := ga) rfl i (kS x) (by rw [List.getElem?_map, hxk]; rfl)
            rw [kadd] at h1
            exact h1
          have cx := hcx wr HT.out.2.2
          have hkx := key_eq x key
          have k0 : (0 : Int) ≤ (i : Int) := by omega
          have k1 : (i : Int) < (M : Int) := by omega
          clear hxk hcx
          rcases hxb : (x == key) with _ | _
          · have HXB := Lib.hid hxb
            have hg1 := grows_alloc wr (.cells #[.string ⟨x.toArray⟩] 9)
            have hm1 := Whole.made wr 9 #[.string ⟨x.toArray⟩]
            obtain ⟨W1, hW1⟩ : ∃ W1, wr.alloc (.cells #[.string ⟨x.toArray⟩] 9) = W1 := ⟨_, rfl⟩
            rw [hW1] at hg1 hm1
            obtain ⟨A', c', W2, hrun, hown2, hgb⟩ := app_key (ty := 38) (owned_grow HT.out.2.1 hg1) x hm1 (by have := HT.out.1; have := HTL.out; omega) (by have := HT.out.2.2.size; have := hg1.size; omega)
            obtain ⟨gk, hgk⟩ : ∃ gk, wr.heap.size = gk := ⟨_, rfl⟩
            rw [hgk] at hrun
            have HRUN := Lib.hid hrun
            have HN := Lib.hid (And.intro hown2 (grown_grows (Grows.trans HT.out.2.2 hg1) (owned_grow HT.out.2.1 hg1) hgb))
            have HWS := Lib.hid (show restK key ((La.map (·.key)).take (i + 1)) = restK key ((La.map (·.key)).take i) ++ [x] from by rw [hst, if_neg (by rw [HXB.out]; decide)])
            clear hg1 hm1 hrun hown2 hgb hst
            go_wp2_with (first | rw [hW1] | (at_builtin; refine list_exec rfl (exec_appK rfl rfl rfl HRUN.out) ?_; simp only [Act.put, List.setIfInBounds_toArray, List.set_cons_zero, List.set_cons_succ]) | fail)
            go_roundw
            case rel => exact ⟨i + 1, A', c', nW + 1, by omega, by first | rfl | go_num, rfl, Lib.hid ⟨by rw [HWS.out, List.length_append, HT.out.1]; rfl, by rw [HWS.out]; exact HN.out.1, HN.out.2⟩⟩
            case measure => simp [intOf]; omega
          · have HXB := Lib.hid hxb
            have HWS := Lib.hid (show restK key ((La.map (·.key)).take (i + 1)) = restK key ((La.map (·.key)).take i) from by rw [hst, if_pos HXB.out])
            clear hst
            go_wp2_with (fail)
            go_roundw
            case rel => exact ⟨i + 1, AW, cW, nW, by omega, by first | rfl | go_num, rfl, Lib.hid ⟨by rw [HWS.out]; exact HT.out.1, by rw [HWS.out]; exact HT.out.2.1, HT.out.2.2⟩⟩
            case measure => simp [intOf]; omega
        · obtain rfl : i = M := by omega
          have hR : restK key ((La.map (·.key)).take i) = Lb.map (·.key) := by
            rw [List.take_of_length_le (by rw [List.length_map]; have := HK5.out.2; omega)]
            exact HK5.out.2.2.2.rest
          have h1 := HT.out
          rw [hR, List.length_map] at h1
          have HLL := Lib.hid (show Lb.length = nW ∧ La.length = i ∧ i ≤ 301 ∧ i = nW + 1 from ⟨h1.1, HK5.out.2.1, HK5.out.2.2.1, by have := HK5.out.2.2.2.len; have := HK5.out.2.1; omega⟩)
          have HRW := Lib.hid (show Row wr wr.heap.size AW nW (Lb.map (·.key) |>.map kS) from Row.owned h1.2.1)
          have hgt := Grows.trans H10.out.2.1 h1.2.2
          have HTW := Lib.hid (HK5.out.1.grow hgt)
          have HPB := Lib.hid (show ∀ w', Grows wr w' → Whole w' vb 32 #[.int .i64 7, .int .i64 3, .string ⟨key.toArray⟩, .int .i64 13, .int .i64 20] from fun w' hg => hg.whole (h1.2.2.whole H10.out.2.2))
          have HEQ := Lib.hid (show ∀ w', (Op.equalIn 10000 32 (.agg #[.int .i64 7, .int .i64 3, .string ⟨key.toArray⟩, .int .i64 13, .int .i64 20]) (.agg #[.int .i64 7, .int .i64 3, .string ⟨key.toArray⟩, .int .i64 13, .int .i64 20])).run Try.prog w' = .ok true w' from fun w' => (eq_pl (plc key 7) (plc key 7) w').trans (by rw [decide_eq_true rfl]))
          have HLB := Lib.hid (show ∀ w', Grows wr w' → Calls Try.prog 24 #[.pointer (some ⟨b, 0, none⟩)] w' fun e w'' => Grows w' w'' ∧ ∃ x : Option Addr × Nat, e = .returned (.slice x.1 nW x.2) ∧ Row w'' w''.heap.size x.1 nW ((Lb.map (·.key)).map kS) from fun w' hg => (list_at (HTW.out.grow hg).snd (by have := HLL.out; omega) rfl).mono fun e w'' ⟨A3, n3, c3, h2, h3, h4⟩ => by
            have hl3 := OwnS.len h3
            rw [List.length_map, HLL.out.1] at hl3
            subst hl3
            exact ⟨h4, (A3, c3), h2, Row.owned h3⟩)
          have HSN := Lib.hid (show ∀ w', Grows wr w' → ∀ (A3 : Option Addr) (c3 : Nat), Row w' w'.heap.size A3 nW ((Lb.map (·.key)).map kS) → Calls Try.prog 17 #[.slice AW nW cW, .slice A3 nW c3] w' fun e w'' => e = .returned (.bool true) ∧ Grows w' w'' from fun w' hg A3 c3 hr => by
            have h5 := ksame_names AW nW cW A3 nW c3 (Lb.map (·.key)) (Lb.map (·.key)) w' (hg.row HRW.out) hr (by have := HLL.out; omega)
            rw [show decide (Lb.map (·.key) = Lb.map (·.key)) = true from decide_eq_true rfl] at h5
            exact h5)
          have HMA := Lib.hid (show ∀ w', Grows wr w' → Calls Try.prog 22 #[.pointer (some ⟨a, 0, none⟩)] w' fun e w'' => e = .returned (.int .i64 (i : Int)) ∧ Grows w' w'' from fun w' hg => (many_at (HTW.out.grow hg).fst (by have := HLL.out; omega) HLL.out.2.1).mono fun e w'' ⟨h1, h2⟩ => ⟨h1, h2 ▸ Grows.refl _⟩)
          have HMB := Lib.hid (show ∀ w', Grows wr w' → Calls Try.prog 22 #[.pointer (some ⟨b, 0, none⟩)] w' fun e w'' => e = .returned (.int .i64 (nW : Int)) ∧ Grows w' w'' from fun w' hg => (many_at (HTW.out.grow hg).snd (by have := HLL.out; omega) HLL.out.1).mono fun e w'' ⟨h1, h2⟩ => ⟨h1, h2 ▸ Grows.refl _⟩)
          have HMW := Lib.hid (show (nW : Int) + 1 = (i : Int) ∧ IntKind.i64.wrap (i : Int) = (i : Int) ∧ wrap64 (i : Int) = (i : Int) from ⟨by have := HLL.out; omega, wrapK (by omega) (by have := HLL.out; omega)⟩)
          clear h1 hR hgt
          go_wp2_with (fail)
          refine wp_region_facts (E := Grows) [valFact (.bool true), valFact (.bool true), valFact (.bool true), valFact (.bool true), valFact (.bool true), valFact (.bool false), valFact (.bool true), valFact (.bool true), valFact (.bool true), valFact (.agg #[.int .i64 7, .int .i64 3, .string ⟨key.toArray⟩, .int .i64 13, .int .i64 20]), valFact (.string ⟨key.toArray⟩), valFact (.agg #[.int .i64 7, .int .i64 3, .string ⟨key.toArray⟩, .int .i64 13, .int .i64 20]), valFact (.bool true), valFact (.bool true), valFact (.bool true), valFact (.slice AW nW cW), valFact (.pointer (some ⟨b, 0, none⟩)), rowFactK nW (Lb.map fun p : Pl => p.key), valFact (.bool true), valFact (.bool true), valFact (.bool true), valFact (.pointer (some ⟨a, 0, none⟩)), valFact (.int .i64 (i : Int)), valFact (.pointer (some ⟨b, 0, none⟩)), valFact (.int .i64 (nW : Int)), valFact (.int .i64 (i : Int)), valFact (.bool true), valFact (.bool true), valFact (.bool true)] (by kernel_rfl) (by kernel_rfl) (fun _ _ _ => Grows.trans) (grows_drew _) ?_
          refine f_val (.bool true) (by rfl) ?_ ?_
          · intro w' hC; clear hC; go_simp
          simp only [Act.put, List.setIfInBounds_toArray, List.set_cons_zero, List.set_cons_succ]
          refine f_val (.bool true) (by rfl) ?_ ?_
          · intro w' hC; clear hC; go_simp
          simp only [Act.put, List.setIfInBounds_toArray, List.set_cons_zero, List.set_cons_succ]
          refine f_val (.bool true) (by rfl) ?_ ?_
          · intro w' hC; clear hC; go_simp
          simp only [Act.put, List.setIfInBounds_toArray, List.set_cons_zero, List.set_cons_succ]
          refine f_val (.bool true) (by rfl) ?_ ?_
          · intro w' hC; clear hC; go_simp
          simp only [Act.put, List.setIfInBounds_toArray, List.set_cons_zero, List.set_cons_succ]
          refine f_val (.bool true) (by rfl) ?_ ?_
          · intro w' hC; clear hC; go_simp
          simp only [Act.put, List.setIfInBounds_toArray, List.set_cons_zero, List.set_cons_succ]
          refine f_val (.bool false) (by rfl) ?_ ?_
          · intro w' hC; clear hC; go_simp
          simp only [Act.put, List.setIfInBounds_toArray, List.set_cons_zero, List.set_cons_succ]
          refine f_val (.bool true) (by rfl) ?_ ?_
          · intro w' hC; clear hC; go_simp
          simp only [Act.put, List.setIfInBounds_toArray, List.set_cons_zero, List.set_cons_succ]
          refine f_val (.bool true) (by rfl) ?_ ?_
          · intro w' hC; clear hC; go_simp
          simp only [Act.put, List.setIfInBounds_toArray, List.set_cons_zero, List.set_cons_succ]
          refine f_val (.bool true) (by rfl) ?_ ?_
          · intro w' hC; clear hC; go_simp
          simp only [Act.put, List.setIfInBounds_toArray, List.set_cons_zero, List.set_cons_succ]
          refine f_val (.agg #[.int .i64 7, .int .i64 3, .string ⟨key.toArray⟩, .int .i64 13, .int .i64 20]) (by rfl) ?_ ?_
          · intro w' hC; have q := HPB.out w' hC; have q0 := q.cell 0; have q1 := q.cell 1; have q2 := q.cell 2; have q3 := q.cell 3; have q4 := q.cell 4; simp only [List.getElem?_toArray, List.getElem?_cons_zero, List.getElem?_cons_succ] at q0 q1 q2 q3 q4; clear q; clear hC; go_simp
          simp only [Act.put, List.setIfInBounds_toArray, List.set_cons_zero, List.set_cons_succ]
          refine f_val (.string ⟨key.toArray⟩) (by rfl) ?_ ?_
          · intro w' hC; clear hC; go_simp
          simp only [Act.put, List.setIfInBounds_toArray, List.set_cons_zero, List.set_cons_succ]
          refine f_call 26 #[.string ⟨key.toArray⟩, .int .i64 7] (.agg #[.int .i64 7, .int .i64 3, .string ⟨key.toArray⟩, .int .i64 13, .int .i64 20]) (by rfl) (by intro w' hC; clear hC; go_simp) ?_ ?_
          · intro w' hC _; exact place_any key 7 w'
          simp only [Act.put, List.setIfInBounds_toArray, List.set_cons_zero, List.set_cons_succ]
          refine f_val (.bool true) (by rfl) ?_ ?_
          · intro w' hC; have z := HEQ.out w'; clear hC; go_simp
          simp only [Act.put, List.setIfInBounds_toArray, List.set_cons_zero, List.set_cons_succ]
          refine f_val (.bool true) (by rfl) ?_ ?_
          · intro w' hC; clear hC; go_simp
          simp only [Act.put, List.setIfInBounds_toArray, List.set_cons_zero, List.set_cons_succ]
          refine f_val (.bool true) (by rfl) ?_ ?_
          · intro w' hC; clear hC; go_simp
          simp only [Act.put, List.setIfInBounds_toArray, List.set_cons_zero, List.set_cons_succ]
          refine f_val (.slice AW nW cW) (by rfl) ?_ ?_
          · intro w' hC; clear hC; go_simp
          simp only [Act.put, List.setIfInBounds_toArray, List.set_cons_zero, List.set_cons_succ]
          refine f_val (.pointer (some ⟨b, 0, none⟩)) (by rfl) ?_ ?_
          · intro w' hC; clear hC; go_simp
          simp only [Act.put, List.setIfInBounds_toArray, List.set_cons_zero, List.set_cons_succ]
          refine f_callK 24 #[.pointer (some ⟨b, 0, none⟩)] (by rfl) (by intro w' hC; clear hC; go_simp) ?_ ?_
          · intro w' hC; exact HLB.out w' hC
          rintro ⟨AL2, cl2⟩
          dsimp only [rowFactK]
          simp only [Act.put, List.setIfInBounds_toArray, List.set_cons_zero, List.set_cons_succ]
          refine f_call 17 #[.slice AW nW cW, .slice AL2 nW cl2] (.bool true) (by rfl) (by intro w' hC; clear hC; go_simp) ?_ ?_
          · intro w' hC hks; exact HSN.out w' hC AL2 cl2 (Known.get hks 0 rfl rfl)
          simp only [Act.put, List.setIfInBounds_toArray, List.set_cons_zero, List.set_cons_succ]
          refine f_val (.bool true) (by rfl) ?_ ?_
          · intro w' hC; clear hC; go_simp
          simp only [Act.put, List.setIfInBounds_toArray, List.set_cons_zero, List.set_cons_succ]
          refine f_val (.bool true) (by rfl) ?_ ?_
          · intro w' hC; clear hC; go_simp
          simp only [Act.put, List.setIfInBounds_toArray, List.set_cons_zero, List.set_cons_succ]
          refine f_val (.pointer (some ⟨a, 0, none⟩)) (by rfl) ?_ ?_
          · intro w' hC; clear hC; go_simp
          simp only [Act.put, List.setIfInBounds_toArray, List.set_cons_zero, List.set_cons_succ]
          refine f_call 22 #[.pointer (some ⟨a, 0, none⟩)] (.int .i64 (i : Int)) (by rfl) (by intro w' hC; clear hC; go_simp) ?_ ?_
          · intro w' hC _; exact HMA.out w' hC
          simp only [Act.put, List.setIfInBounds_toArray, List.set_cons_zero, List.set_cons_succ]
          refine f_val (.pointer (some ⟨b, 0, none⟩)) (by rfl) ?_ ?_
          · intro w' hC; clear hC; go_simp
          simp only [Act.put, List.setIfInBounds_toArray, List.set_cons_zero, List.set_cons_succ]
          refine f_call 22 #[.pointer (some ⟨b, 0, none⟩)] (.int .i64 (nW : Int)) (by rfl) (by intro w' hC; clear hC; go_simp) ?_ ?_
          · intro w' hC _; exact HMB.out w' hC
          simp only [Act.put, List.setIfInBounds_toArray, List.set_cons_zero, List.set_cons_succ]
          refine f_val (.int .i64 (i : Int)) (by rfl) ?_ ?_
          · intro w' hC; have z1 := HMW.out.1; have z2 := HMW.out.2.1; have z3 := HMW.out.2.2; clear hC; go_simp
          simp only [Act.put, List.setIfInBounds_toArray, List.set_cons_zero, List.set_cons_succ]
          refine f_val (.bool true) (by rfl) ?_ ?_
          · intro w' hC; clear hC; go_simp
          simp only [Act.put, List.setIfInBounds_toArray, List.set_cons_zero, List.set_cons_succ]
          refine f_val (.bool true) (by rfl) ?_ ?_
          · intro w' hC; clear hC; go_simp
          simp only [Act.put, List.setIfInBounds_toArray, List.set_cons_zero, List.set_cons_succ]
          refine f_val (.bool true) (by rfl) ?_ ?_
          · intro w' hC; clear hC; go_simp
          simp only [Act.put, List.setIfInBounds_toArray, List.set_cons_zero, List.set_cons_succ]
          refine wpF_end ?_
          intro w16 hC hks
          have HCw16 := Lib.hid hC
          clear hC hks
          go_wp2_with (fail)
          go_ret
          exact ⟨rfl, (HTW.out.grow HCw16.out).low⟩

set_option maxRecDepth 100000 in
theorem keysApart_lifted (os : Os) (started : os.Started) (H : Type) (enc : TypeId × Value → H) :
    ReturnsInHanded {} Try.checked os 7 .any (Rows.keysApartSpec.pre6 enc Try.prog Try.f7 Rows.keysApartRow.domain false) (Rows.keysApartSpec.post enc Try.prog Try.f7 false true false false) := by
  refine lift_law (C := Try.checked) H enc own started (by kernel_rfl) Try.func7
    (ChangeSpec.witness6 (enc := enc) (C := Try.checked) false ⟨#[], #[.slice none 0 0, .string ⟨#[]⟩], []⟩ 16 (by kernel_rfl) (by kernel_rfl) (by kernel_rfl) (by kernel_rfl))
    laidOut (of_readable (by kernel_rfl)) rfl Try.underlying4 rfl (fun ds hd => ?_) (fun W base args ds p hval hA hsz => ?_)
  · match ds, hd with
    | [d1, d2], _ => rfl
  · rw [Try.params7] at hA hval hsz
    obtain ⟨v0, vs0, d0, ds0, p0, q0, hargs, rfl, rfl, h0, r0⟩ := trodAll_cons hA
    obtain ⟨v1, vs1, d1, ds1, p1, q1, rfl, rfl, rfl, h1, r1⟩ := trodAll_cons r0
    obtain ⟨rfl, rfl, rfl⟩ := trodAll_nil r1
    obtain rfl : args = #[v0, v1] := by cases args; simp_all
    obtain ⟨A0, n0, c0, xs0, rfl, hx0⟩ := open_ops13 (hval 0 22 v0 rfl rfl) h0
    obtain ⟨l1, rfl, hl1⟩ := open_text Try.underlying9 (hval 1 9 v1 rfl rfl) h1
    exact keysApart_law W A0 n0 c0 xs0 hx0 l1 hl1

theorem keysApart_over : Rows.keysApartRow.holds Try.pinned (OpenSpec.ofChange Rows.keysApartSpec) :=
  OpenClaim.holds_of_wide 7 Try.f7 rfl rfl rfl rfl rfl rfl rfl ⟨rfl, rfl, rfl, rfl, rfl⟩ rfl rfl rfl rfl rfl (by kernel_rfl) Try.func7 (by kernel_rfl)
    (of_decide_eq_true (by kernel_rfl)) (by unfold Func.isWrapper; first | (rw [if_pos (by decide +kernel)]; kernel_rfl) | (rw [if_neg (by decide +kernel)]; exact ⟨rfl, rfl⟩))
    (fun os started H enc _ => keysApart_lifted os started H enc)
theorem keysApart_holds : Rows.KeysApartSaid := keysApart_over
end Go.Proofs.Ytadgbobemmfjoaa