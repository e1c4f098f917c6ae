/-
  Texts that the statements' proofs lean on, one behind the other.
-/
import Derived.Test.YtdkpbphgaenlnaaGreatRcPlain
import Derived.Test.YtdkpbphgaenlnaaGreatMR
import Derived.Test.YtdkpbphgaenlnaaGreatCame
import Derived.Test.YtdkpbphgaenlnaaGreatInts
import Derived.Test.YtdkpbphgaenlnaaGreatMD
import Derived.Test.YtdkpbphgaenlnaaGreatMH
import Derived.Test.YtdkpbphgaenlnaaGreatWalkBits
import Derived.Deep.SlicePairs
/-
  Manifests, plainly: which are right, their bytes, the manifest of any bytes.
-/
namespace Go.Proofs.YtdkpbphgaenlnaaGreat
set_option linter.unusedVariables false
set_option linter.unusedSimpArgs false

structure Mn where
  segs : List Int
  next : Int
  deriving DecidableEq
def Mn.none : Mn := ⟨[], 0⟩
/-- The last one of numbers that rise from one on. -/
def upTo : Int → List Int → Option Int
  | a, [] => some a
  | a, n :: r => if n ≤ a then Option.none else upTo n r
theorem upTo_snoc : ∀ (l : List Int) (a n : Int), upTo a (l ++ [n]) = match upTo a l with
    | some z => if n ≤ z then Option.none else some n
    | Option.none => Option.none
  | [], a, n => by simp only [List.nil_append, upTo]
  | x :: l, a, n => by
    rw [List.cons_append, upTo, upTo]
    by_cases h : x ≤ a
    · rw [if_pos h, if_pos h]
    · rw [if_neg h, if_neg h, upTo_snoc l x n]
theorem upTo_append_none : ∀ (l r : List Int) (a : Int), upTo a l = Option.none → upTo a (l ++ r) = Option.none
  | [], _, _, h => by cases h
  | x :: l, r, a, h => by
    rw [List.cons_append, upTo]
    rw [upTo] at h
    by_cases hx : x ≤ a
    · rw [if_pos hx]
    · rw [if_neg hx] at h ⊢
      exact upTo_append_none l r x h
theorem upTo_ge : ∀ (l : List Int) (a z : Int), upTo a l = some z → a ≤ z ∧ ∀ n ∈ l, a < n ∧ n ≤ z
  | [], a, z, h => by
    injection h with h
    subst h
    exact ⟨Int.le_refl _, fun n hn => by cases hn⟩
  | x :: l, a, z, h => by
    rw [upTo] at h
    by_cases hx : x ≤ a
    · rw [if_pos hx] at h; cases h
    · rw [if_neg hx] at h
      obtain ⟨h1, h2⟩ := upTo_ge l x z h
      refine ⟨by omega, fun n hn => ?_⟩
      rcases List.mem_cons.1 hn with rfl | hn
      · exact ⟨by omega, h1⟩
      · have := h2 n hn
        exact ⟨by omega, this.2⟩
def rightM (m : Mn) : Bool := decide (m.segs.length ≤ 1000) && (match upTo (-1) m.segs with
  | some z => decide (z < m.next ∧ m.next ≤ 99999999)
  | Option.none => false)
theorem rightM_len {m : Mn} (h : rightM m = true) : m.segs.length ≤ 1000 := by
  unfold rightM at h
  rw [Bool.and_eq_true, decide_eq_true_eq] at h
  exact h.1
theorem rightM_nums {m : Mn} (h : rightM m = true) : (0 ≤ m.next ∧ m.next ≤ 99999999) ∧ ∀ n ∈ m.segs, 0 ≤ n ∧ n ≤ 99999999 := by
  unfold rightM at h
  rw [Bool.and_eq_true] at h
  obtain ⟨_, h⟩ := h
  cases hz : upTo (-1) m.segs with
  | none => rw [hz] at h; cases h
  | some z =>
    rw [hz] at h
    have h := of_decide_eq_true h
    obtain ⟨h1, h2⟩ := upTo_ge _ _ _ hz
    refine ⟨by omega, fun n hn => ?_⟩
    have := h2 n hn
    omega
/-- Numbers' bytes. -/
def numsB : List Int → List UInt8
  | [] => []
  | n :: l => numB n 4 ++ numsB l
theorem numsB_length : ∀ l, (numsB l).length = 4 * l.length
  | [] => rfl
  | n :: l => by rw [numsB, List.length_append, numB_length, numsB_length l, List.length_cons]; omega
theorem numsB_append : ∀ a b, numsB (a ++ b) = numsB a ++ numsB b
  | [], _ => rfl
  | n :: a, b => by rw [List.cons_append, numsB, numsB, numsB_append a b, List.append_assoc]
theorem numsB_snoc (a : List Int) (n : Int) : numsB (a ++ [n]) = numsB a ++ numB n 4 := by rw [numsB_append, numsB, numsB, List.append_nil]
def headM (m : Mn) : List UInt8 := 8 :: (numB m.next 4 ++ numB m.segs.length 2)
def bodyM (m : Mn) : List UInt8 := headM m ++ numsB m.segs
theorem headM_length (m : Mn) : (headM m).length = 7 := by unfold headM; simp [numB_length]
theorem bodyM_length (m : Mn) : (bodyM m).length = 7 + 4 * m.segs.length := by unfold bodyM; rw [List.length_append, headM_length, numsB_length]
/-- A manifest's bytes; nothing, if it is not right. -/
def putM (m : Mn) : List UInt8 := if rightM m = true then putB (bodyM m) else []
theorem bodyM_good {m : Mn} (h : rightM m = true) : Good (bodyM m) := by
  have := rightM_len h
  have := bodyM_length m
  unfold Good
  omega
theorem putM_right {m : Mn} (h : rightM m = true) : putM m = frameB (bodyM m) := by unfold putM; rw [if_pos h, putB_good (bodyM_good h)]
theorem putM_length {m : Mn} (h : rightM m = true) : (putM m).length = 15 + 4 * m.segs.length := by rw [putM_right h, frameB_length, bodyM_length]; omega
theorem putM_ill {m : Mn} (h : rightM m = false) : putM m = [] := by unfold putM; rw [h]; rfl
theorem putM_small (m : Mn) : (putM m).length ≤ 4015 := by
  cases h : rightM m with
  | false => rw [putM_ill h]; simp
  | true => rw [putM_length h]; have := rightM_len h; omega
/-- Numbers of four bytes each. -/
def foursL : List UInt8 → List Int
  | a :: b :: c :: d :: r => valB [a, b, c, d] :: foursL r
  | _ => []
theorem numB_four (n : Int) : ∃ a b c d, numB n 4 = [a, b, c, d] := ⟨_, _, _, _, rfl⟩
theorem fours_nums : ∀ l : List Int, (∀ n ∈ l, 0 ≤ n ∧ n ≤ 99999999) → foursL (numsB l) = l
  | [], _ => rfl
  | n :: l, h => by
    have h1 := h n (List.mem_cons_self ..)
    have hv : valB (numB n 4) = n := valB_of n 4 h1.1 (by omega)
    obtain ⟨a, b, c, d, e⟩ := numB_four n
    rw [numsB, e]
    rw [e] at hv
    show valB [a, b, c, d] :: foursL (numsB l) = _
    rw [hv, fours_nums l fun x hx => h x (List.mem_cons_of_mem _ hx)]
theorem nums_fours : ∀ (k : Nat) (bs : List UInt8), bs.length = 4 * k → numsB (foursL bs) = bs ∧ (foursL bs).length = k
  | 0, bs, h => by
    obtain rfl : bs = [] := List.eq_nil_of_length_eq_zero (by omega)
    exact ⟨rfl, rfl⟩
  | k + 1, bs, h => by
    match bs, h with
    | a :: b :: c :: d :: r, h =>
      obtain ⟨h1, h2⟩ := nums_fours k r (by simp only [List.length_cons] at h; omega)
      refine ⟨?_, by rw [foursL, List.length_cons, h2]⟩
      rw [foursL, numsB, h1]
      have := numB_valB' [a, b, c, d]
      rw [show ([a, b, c, d] : List UInt8).length = 4 from rfl] at this
      rw [this]
      rfl
/-- What a body tells, if it is as long as it tells. -/
def toldM (b : List UInt8) : Option Mn :=
  if b.length < 7 ∨ b.getD 0 0 ≠ 8 then Option.none
  else if ((b.length - 7 : Nat) : Int) ≠ valB ((b.drop 5).take 2) * 4 then Option.none
  else some ⟨foursL (b.drop 7), valB ((b.drop 1).take 4)⟩
/-- The right manifest of bytes, if there is one. -/
def getM (b : List UInt8) : Option Mn :=
  if (firstB b).2.2 = 0 ∧ (firstB b).2.1 = b.length then
    match toldM (firstB b).1 with
    | some m => if rightM m = true then some m else Option.none
    | Option.none => Option.none
  else Option.none
theorem told_body {m : Mn} (h : rightM m = true) : toldM (bodyM m) = some m := by
  have hl := rightM_len h
  obtain ⟨hn, hs⟩ := rightM_nums h
  have hb := bodyM_length m
  have h5 : (bodyM m).drop 5 = numB m.segs.length 2 ++ numsB m.segs := by
    unfold bodyM headM
    rw [List.cons_append, List.append_assoc, List.drop_succ_cons, List.drop_left' (numB_length _ 4)]
  have h1 : (bodyM m).drop 1 = numB m.next 4 ++ (numB m.segs.length 2 ++ numsB m.segs) := by
    unfold bodyM headM
    rw [List.cons_append, List.append_assoc, List.drop_succ_cons, List.drop_zero]
  have h7 : (bodyM m).drop 7 = numsB m.segs := by unfold bodyM; rw [List.drop_left' (headM_length m)]
  unfold toldM
  rw [if_neg, if_neg, h7, h1, List.take_left' (numB_length _ 4), fours_nums _ hs, valB_of _ 4 hn.1 (by omega)]
  · rw [h5, List.take_left' (numB_length _ 2), valB_of _ 2 (by omega) (by omega)]
    simp only [ne_eq, Decidable.not_not]
    omega
  · simp only [not_or, Decidable.not_not, ne_eq]
    exact ⟨by omega, rfl⟩
theorem get_putM {m : Mn} (h : rightM m = true) : getM (putM m) = some m := by
  have hg := bodyM_good h
  have hf := first_back (bodyM m) [] hg.1 hg.2
  rw [List.append_nil] at hf
  unfold getM
  rw [putM_right h, hf]
  dsimp only
  rw [if_pos ⟨rfl, (frameB_length _).symm⟩, told_body h]
  dsimp only
  rw [if_pos h]
theorem seven {b : List UInt8} (h : 7 ≤ b.length) : ∃ a0 a1 a2 a3 a4 a5 a6 r, b = a0 :: a1 :: a2 :: a3 :: a4 :: a5 :: a6 :: r := by
  rcases b with _ | ⟨a0, _ | ⟨a1, _ | ⟨a2, _ | ⟨a3, _ | ⟨a4, _ | ⟨a5, _ | ⟨a6, r⟩⟩⟩⟩⟩⟩⟩ <;> simp only [List.length_nil, List.length_cons] at h <;> first | omega | exact ⟨_, _, _, _, _, _, _, _, rfl⟩
theorem body_told {b : List UInt8} {m : Mn} (h : toldM b = some m) : bodyM m = b := by
  unfold toldM at h
  by_cases h1 : b.length < 7 ∨ b.getD 0 0 ≠ 8
  · rw [if_pos h1] at h; cases h
  rw [if_neg h1] at h
  by_cases h2 : ((b.length - 7 : Nat) : Int) ≠ valB ((b.drop 5).take 2) * 4
  · rw [if_pos h2] at h; cases h
  rw [if_neg h2] at h
  injection h with h
  subst h
  simp only [not_or, Decidable.not_not, ne_eq] at h1 h2
  obtain ⟨hl, h8⟩ := h1
  obtain ⟨a0, a1, a2, a3, a4, a5, a6, r, rfl⟩ := seven (by omega : 7 ≤ b.length)
  simp only [List.getD_cons_zero] at h8
  subst h8
  simp only [List.drop_succ_cons, List.drop_zero, List.take_succ_cons, List.take_zero, List.length_cons] at h2 ⊢
  have hc := valB_lt [a5, a6]
  obtain ⟨k, hk⟩ : ∃ k : Nat, valB [a5, a6] = (k : Int) := ⟨(valB [a5, a6]).toNat, (Int.toNat_of_nonneg hc.1).symm⟩
  obtain ⟨h3, h4⟩ := nums_fours k r (by rw [hk] at h2; omega)
  have e1 := numB_valB' [a1, a2, a3, a4]
  have e2 := numB_valB' [a5, a6]
  rw [show ([a1, a2, a3, a4] : List UInt8).length = 4 from rfl] at e1
  rw [show ([a5, a6] : List UInt8).length = 2 from rfl] at e2
  unfold bodyM headM
  dsimp only
  rw [h4, ← hk, e1, e2, h3]
  rfl
/-- .. and the other way. -/
theorem put_getM {b : List UInt8} {m : Mn} (h : getM b = some m) : rightM m = true ∧ putM m = b := by
  unfold getM at h
  by_cases h1 : (firstB b).2.2 = 0 ∧ (firstB b).2.1 = b.length
  rotate_left 1
  · rw [if_neg h1] at h; cases h
  rw [if_pos h1] at h
  cases ht : toldM (firstB b).1 with
  | none => rw [ht] at h; cases h
  | some x =>
    rw [ht] at h
    dsimp only at h
    by_cases hr : rightM x = true
    rotate_left 1
    · rw [if_neg hr] at h; cases h
    rw [if_pos hr] at h
    injection h with h
    subst h
    refine ⟨hr, ?_⟩
    have hb := body_told ht
    have hg := first_got (c := b) (y := (firstB b).1) (k := (firstB b).2.1) (Prod.ext rfl (Prod.ext rfl h1.1))
    rw [h1.2, List.take_length] at hg
    unfold putM
    rw [if_pos hr, hb]
    exact hg.2.2
/-- What has turned within 32 bits is none. -/
theorem get_spoiltM {m : Mn} (h : rightM m = true) {K v : Nat} (hK : K + 32 ≤ 8 * (putM m).length) (hv : v < 4294967296) (hv0 : v ≠ 0) : getM (burstB (putM m) K v 32) = Option.none := by
  have hg := bodyM_good h
  rw [putM_right h] at hK ⊢
  rw [frameB_length] at hK
  have hs := spoilt_not (bodyM m) [] hg.1 hg.2 K v hK hv hv0
  rw [List.append_nil] at hs
  unfold getM
  rw [if_neg]
  rw [burstB_length, frameB_length]
  exact hs
end Go.Proofs.YtdkpbphgaenlnaaGreat

/-
  The library's Chunk of bytes, by fours: what it yields.
-/
namespace Go.Proofs.YtdkpbphgaenlnaaGreat
open Go.RowKit Go.Shelf
set_option linter.unusedVariables false
set_option linter.unusedSimpArgs false
attribute [local go_sem] Oper.semAt_some

theorem chunk_fn (A : Option Addr) (n c : Nat) (w : World) : Calls Tryz.prog 141 #[.slice A n c, .int .i64 4] w fun e w' => e = .returned (.func (.func 163) #[] #[.pointer (some ⟨w.heap.size, 0, none⟩), .pointer (some ⟨w.heap.size + 1, 0, none⟩)]) ∧ (w.alloc (.cells #[.slice A n c] 55)).alloc (.cells #[.int .i64 4] 3) = w' := by
  go_enter Tryz.func141, Tryz.ntmps141
  go_wp2
  go_ret
  exact ⟨rfl, rfl⟩
/-- Four bytes, and where they lie. -/
abbrev Cx := List UInt8 × Option Addr
def cxVals (x : Cx) : Array Value := #[.slice x.2 4 4]
def chunkAt (bs : List UInt8) (i : Nat) : List UInt8 := (bs.drop (4 * i)).take 4
def ToldC (B : Nat) (bs : List UInt8) (pre : List Cx) (x : Cx) (W0 W1 : World) : Prop := x.1 = chunkAt bs pre.length ∧ Sl W1 x.2 4 4 x.1 ∧ 4 * pre.length + 4 ≤ bs.length ∧ ∀ ad, x.2 = some ad → ad.block < B
theorem fours_chunks : ∀ (K : Nat) (bs : List UInt8), bs.length = 4 * K → foursL bs = (List.range K).map fun i => valB (chunkAt bs i)
  | 0, bs, h => by
    obtain rfl : bs = [] := List.eq_nil_of_length_eq_zero (by omega)
    rfl
  | K + 1, bs, h => by
    match bs, h with
    | a :: b :: c :: d :: r, h =>
      rw [foursL, fours_chunks K r (by simp only [List.length_cons] at h; omega), List.range_succ_eq_map, List.map_cons, List.map_map]
      congr 1

set_option maxRecDepth 100000 in
set_option maxHeartbeats 4000000 in
theorem chunk_gives (n : Nat) (Bs Bn : Nat) (A : Option Addr) (N c K : Nat) (bs : List UInt8) (wA w : World) (hs : Sl wA A N c bs) (hl : Lowly wA w) (hb : Boxed w Bs 55 (.slice A N c)) (hb2 : Boxed w Bn 3 (.int .i64 4)) (hN : N = 4 * K) (hK : K ≤ 1000000) :
    Gives Tryz.prog n 163 #[.pointer (some ⟨Bs, 0, none⟩), .pointer (some ⟨Bn, 0, none⟩)] cxVals (ToldC wA.heap.size bs) (fun k => k < wA.heap.size ∨ k = Bs ∨ k = Bn) (fun xs => xs.map (fun x => valB x.1) = foursL bs) (fun _ => True) w := by
  intro l J Jx W hW hJ hJx hY h0
  have hlen := hs.len
  have HI := Lib.hid (And.intro hs (And.intro hlen hN))
  have HLW := Lib.hid (show Lowly wA W ∧ Boxed W Bs 55 (.slice A N c) ∧ Boxed W Bn 3 (.int .i64 4) from ⟨hl.trans hW.size fun k hk => hW.block k (Nat.lt_of_lt_of_le hk hl.1), (hW.block _ hb.lt).trans hb, (hW.block _ hb2.lt).trans hb2⟩)
  have HFC := Lib.hid (fours_chunks K bs (by omega))
  have hcap := hs.cap
  have HN := Lib.hid (And.intro hN hcap)
  clear hs hl hb hb2 hlen hW hN hcap
  show CallsIn _ _ _ _ #[.func (.yield l) #[] #[], .pointer (some ⟨Bs, 0, none⟩), .pointer (some ⟨Bn, 0, none⟩)] _ _
  refine callsIn_of_wp Tryz.func163 rfl trivial ?_ rfl
  simp only [Tryz.ntmps163, List.size_toArray, List.length_cons, List.length_nil, Nat.reduceAdd, Nat.reduceSub, Array.replicate_succ, Array.replicate_zero, List.push_toArray, List.append_toArray, List.nil_append, List.cons_append]
  gi_wp2_with (fail)
  gi_loopw [4] (fun i wr => ∃ (pre : List Cx) (j i4 : Nat), j ≤ K ∧ i = .int .i64 (i4 : Nat) ∧ Hid (i4 = 4 * j) ∧ Hid (pre.length = j ∧ pre.map (fun x => valB x.1) = (List.range j).map fun i => valB (chunkAt bs i)) ∧ J pre wr ∧ Hid (Lowly wA wr ∧ Boxed wr Bs 55 (.slice A N c) ∧ Boxed wr Bn 3 (.int .i64 4))) (fun i _ => N - (intOf i).toNat)
  case atStart => exact ⟨[], 0, 0, Nat.zero_le _, rfl, Lib.hid rfl, Lib.hid ⟨rfl, rfl⟩, h0, HLW⟩
  case round =>
    obtain ⟨pre, j, i4, hj, rfl, HE, HP, hJp, HL⟩ := hrel
    by_cases hlt : j < K
    · have hltI : (i4 : Int) < (N : Int) := by have := HE.out; have := HN.out; omega
      have hj0 : (0 : Int) ≤ (i4 : Int) := by omega
      obtain ⟨j8, hj8⟩ : ∃ j8, i4 + 4 = j8 := ⟨_, rfl⟩
      have hw8 : IntKind.i64.wrap ((i4 : Int) + 4) = (j8 : Int) := by rw [IntWalk.i64_in _ (by have := HE.out; omega)]; omega
      have h84 : j8 - i4 = 4 := by omega
      have h8n : ¬ j8 = i4 := by omega
      have h8a : (i4 : Int) ≤ (j8 : Int) := by omega
      have h8c : (j8 : Int) ≤ (c : Int) := by have := HE.out; have := HN.out; omega
      have hcn : ¬ c = i4 := by have := HE.out; have := HN.out; omega
      have hic : (i4 : Int) ≤ (N : Int) := by omega
      have hNc : (N : Int) ≤ (c : Int) := by have := HN.out; omega
      obtain ⟨r4, hr4⟩ : ∃ r4, N - i4 = r4 := ⟨_, rfl⟩
      have hmin : ¬ ((r4 : Int) < 4) := by have := HE.out; have := HN.out; omega
      have hsl0 := HI.out.1
      obtain ⟨ad, rfl⟩ : ∃ ad, A = some ad := by
        obtain ⟨ad, h, _⟩ := hsl0.bytes.spot (k := 0) (by have := HN.out; omega)
        exact ⟨ad, h⟩
      have hpart := hsl0.part (k := i4) (m := j8) (by omega) (by have := HE.out; have := HN.out; omega) hcn
      have hblk : (ad.add i4).block < wA.heap.size := by
        obtain ⟨ad', h, hb, _⟩ := hsl0.bytes.spot (k := 0) (by have := HN.out; omega)
        injection h with h
        rw [add_block, h]
        exact hb
      have HPT := Lib.hid (show Sl wA (some (ad.add i4)) 4 4 (chunkAt bs j) ∧ (ad.add i4).block < wA.heap.size from by
        refine ⟨?_, hblk⟩
        rw [h84] at hpart
        have e : (bs.take j8).drop i4 = chunkAt bs j := by
          unfold chunkAt
          rw [List.drop_take, h84, HE.out]
        rw [e] at hpart
        exact ⟨hpart.bytes, Nat.le_refl _, fun h => by cases h⟩)
      have HC := Lib.hid (show ∀ w', Grows wr w' → w'.cell? { block := Bs, off := 0 } = some (.slice (some ad) N c) ∧ w'.cell? { block := Bn, off := 0 } = some (.int .i64 4) from fun w' hC => ⟨Boxed.cell ((hC.block _ HL.out.2.1.lt).trans HL.out.2.1), Boxed.cell ((hC.block _ HL.out.2.2.lt).trans HL.out.2.2)⟩)
      have HLT := Lib.hid hlt
      have HJP := Lib.hid hJp
      have HEE := Lib.hid hj8
      obtain ⟨k1, k2⟩ := HC.out wr (Grows.refl _)
      clear hpart hblk hsl0 hj8 hlt
      gi_wp2_with (fail)
      clear k1 k2
      refine wpIn_wide.2 ?_
      refine wp_region_facts (E := Grows) [valFact (.int .i64 4), valFact (.slice (some ad) N c), valFact (.int .i64 (i4 : Nat)), valFact (.slice (some (ad.add i4)) r4 (c - i4)), valFact (.int .i64 (r4 : Nat)), valFact (.int .i64 4), valFact (.int .i64 4)] (by kernel_rfl) (by kernel_rfl) (fun _ _ _ => Grows.trans) (grows_drew _) ?_
      refine f_val (.int .i64 4) (by rfl) ?_ ?_
      · intro w' hC; obtain ⟨z1, z2⟩ := HC.out w' hC; clear hC; first | (go_simp; done)
      simp only [Act.put, List.setIfInBounds_toArray, List.set_cons_zero, List.set_cons_succ]
      refine f_val (.slice (some ad) N c) (by rfl) ?_ ?_
      · intro w' hC; obtain ⟨z1, z2⟩ := HC.out w' hC; clear hC; first | (go_simp; done)
      simp only [Act.put, List.setIfInBounds_toArray, List.set_cons_zero, List.set_cons_succ]
      refine f_val (.int .i64 (i4 : Nat)) (by rfl) ?_ ?_
      · intro w' hC; clear hC; first | (go_simp; done)
      simp only [Act.put, List.setIfInBounds_toArray, List.set_cons_zero, List.set_cons_succ]
      refine f_val (.slice (some (ad.add i4)) r4 (c - i4)) (by rfl) ?_ ?_
      · intro w' hC; clear hC; first | (go_simp; done)
      simp only [Act.put, List.setIfInBounds_toArray, List.set_cons_zero, List.set_cons_succ]
      refine f_val (.int .i64 (r4 : Nat)) (by rfl) ?_ ?_
      · intro w' hC; clear hC; first | (go_simp; done)
      simp only [Act.put, List.setIfInBounds_toArray, List.set_cons_zero, List.set_cons_succ]
      refine f_val (.int .i64 4) (by rfl) ?_ ?_
      · intro w' hC; clear hC; first | (go_simp; done) | (go_simp; intro h; omega)
      simp only [Act.put, List.setIfInBounds_toArray, List.set_cons_zero, List.set_cons_succ]
      refine f_val (.int .i64 4) (by rfl) ?_ ?_
      · intro w' hC; clear hC; first | (go_simp; done)
      simp only [Act.put, List.setIfInBounds_toArray, List.set_cons_zero, List.set_cons_succ]
      refine wpF_end ?_
      intro w2 hC hks
      have HCw2 := Lib.hid hC
      clear hC hks
      obtain ⟨k1, k2⟩ := HC.out w2 HCw2.out
      have htold : ToldC wA.heap.size bs pre (chunkAt bs j, some (ad.add i4)) wr w2 := by
        have h1 := HL.out.1.trans HCw2.out.size fun k hk => HCw2.out.block k (Nat.lt_of_lt_of_le hk HL.out.1.1)
        refine ⟨by rw [HP.out.1], HPT.out.1.lowly h1, by rw [HP.out.1]; have := HLT.out; have := HI.out.2; omega, fun a e => ?_⟩
        injection e with e
        rw [← e]
        exact HPT.out.2
      obtain ⟨fn, tmps, assign, body, hy, hR⟩ := hY pre (chunkAt bs j, some (ad.add i4)) wr w2 HJP.out HCw2.out htold
      dsimp only [cxVals] at hy
      have HR := Lib.hid hR
      clear htold hR hr4
      gi_wp2_with (fail)
      refine ⟨(fun h => by cases h), RoundIn.mono (round_wide HR.out) ?_⟩
      rintro e W3 (⟨rfl, hJ3, hsz3, hk3⟩ | ⟨rfl, hJx3⟩)
      · have hL1 := HL.out.1.trans HCw2.out.size fun k hk => HCw2.out.block k (Nat.lt_of_lt_of_le hk HL.out.1.1)
        have hB1 := (HCw2.out.block _ HL.out.2.1.lt).trans HL.out.2.1
        have hB2 := (HCw2.out.block _ HL.out.2.2.lt).trans HL.out.2.2
        have HL3 := Lib.hid (show Lowly wA W3 ∧ Boxed W3 Bs 55 (.slice (some ad) N c) ∧ Boxed W3 Bn 3 (.int .i64 4) from ⟨hL1.trans hsz3 fun k hk => hk3 k (Nat.lt_of_lt_of_le hk hL1.1) (.inl (.inl hk)), (hk3 Bs (Boxed.lt hB1) (.inl (.inr (.inl rfl)))).trans hB1, (hk3 Bn (Boxed.lt hB2) (.inl (.inr (.inr rfl)))).trans hB2⟩)
        have HJ3 := Lib.hid hJ3
        have HPS := Lib.hid (show (pre ++ [((chunkAt bs j, some (ad.add i4)) : Cx)]).length = j + 1 ∧ (pre ++ [((chunkAt bs j, some (ad.add i4)) : Cx)]).map (fun x => valB x.1) = (List.range (j + 1)).map fun i => valB (chunkAt bs i) from ⟨by rw [List.length_append, HP.out.1]; rfl, by rw [List.map_append, HP.out.2, List.range_succ, List.map_append]; rfl⟩)
        have m1 := HL3.out.2.1.cell
        have m2 := HL3.out.2.2.cell
        clear hL1 hB1 hB2 hsz3 hk3 hJ3 hy k1 k2
        gi_wp2_with (fail)
        go_roundw
        case rel => exact ⟨_, j + 1, j8, HLT.out, rfl, Lib.hid (by have := HE.out; have := HEE.out; omega), HPS, HJ3.out, HL3⟩
        case measure => simp only [intOf]; have := HEE.out; omega
      · have HX := Lib.hid hJx3
        clear hJx3 hy k1 k2
        gi_wp2_with (fail)
        refine bodyPost_ret (results_none rfl _ _ _) rfl ?_
        exact ⟨⟨_, rfl⟩, .inr ⟨_, trivial, HX.out⟩⟩
    · obtain rfl : j = K := by omega
      have hltI : ¬ ((i4 : Int) < (N : Int)) := by have := HE.out; have := HN.out; omega
      obtain ⟨k1, k2⟩ : wr.cell? { block := Bs, off := 0 } = some (.slice A N c) ∧ wr.cell? { block := Bn, off := 0 } = some (.int .i64 4) := ⟨HL.out.2.1.cell, HL.out.2.2.cell⟩
      gi_wp2_with (fail)
      go_end0
      refine ⟨⟨_, rfl⟩, .inl ⟨pre, ?_, hJp⟩⟩
      rw [HP.out.2, HFC.out]
end Go.Proofs.YtdkpbphgaenlnaaGreat

/-
  The walks of man's number and putNumber.
-/
namespace Go.Proofs.YtdkpbphgaenlnaaGreat
open Go.RowKit
set_option linter.unusedSimpArgs false
set_option linter.unusedVariables false

set_option maxRecDepth 100000 in
set_option maxHeartbeats 4000000 in
theorem mnumber_any (A : Option Addr) (m c : Nat) (bs : List UInt8) (w : World) (h : Sl w A m c bs) (hm : m ≤ 6) :
    Calls Tryz.prog 140 #[.slice A m c] w fun e w' => e = .returned (.int .i64 (valB bs)) ∧ w = w' := by
  have hlen := Bytes.len h.bytes
  have HL := Lib.hid h
  clear h
  go_enter Tryz.func140, Tryz.ntmps140
  go_wp2_with (fail)
  go_loop [3, 8] (fun n i => ∃ j : Nat, j ≤ m ∧ i = .int .i64 (j : Nat) ∧ n = .int .i64 (valB (bs.take j))) (fun _ i => m - (intOf i).toNat)
  case atStart => exact ⟨0, by omega, rfl, rfl⟩
  case round =>
    obtain ⟨j, hj, rfl, rfl⟩ := hrel
    by_cases hlt : j < m
    · obtain ⟨ad, rfl, _, hc⟩ := HL.out.bytes.spot hlt
      have hnx := valB_next bs j (by omega)
      have hsm := valB_small (bs.take j) (by rw [List.length_take]; omega)
      have hsm2 := valB_small (bs.take (j + 1)) (by rw [List.length_take]; omega)
      have hb := (bs.getD j 0).toNat_lt
      generalize bs.getD j 0 = b at *
      generalize valB (bs.take j) = v at *
      have HX := Lib.hid hnx
      have k0 : (0 : Int) ≤ (j : Int) := by omega
      have k1 : (j : Int) < (m : Int) := by omega
      clear hnx
      go_wp2_with (fail)
      go_round
      case rel => exact ⟨j + 1, by omega, by go_num, by rw [HX.out, or_byte v _ (by omega) (by have := hsm2; rw [HX.out] at this; omega) hb]; congr 1; omega⟩
      case measure => simp [intOf]; omega
    · obtain rfl : j = m := by omega
      have e1 : bs.take j = bs := List.take_of_length_le (by omega)
      rw [e1]
      go_wp2_with (fail)
      go_ret
      exact ⟨rfl, rfl⟩

set_option maxRecDepth 100000 in
set_option maxHeartbeats 4000000 in
theorem mput_own (base : Nat) (A0 : Option Addr) (n0 c0 : Nat) (xs : List UInt8) (x : Int) (k : Nat) (w : World) (ho : w.ownsRow base 5 1 (.slice A0 n0 c0) n0 (xs.map byteV)) (hb : base ≤ w.heap.size) (hn : n0 ≤ 1000000) (hk : k ≤ 8) :
    Calls Tryz.prog 97 #[.slice A0 n0 c0, .int .i64 x, .int .i64 (k : Int)] w fun e w' => ∃ A' c', e = .returned (.slice A' (n0 + k) c') ∧ w'.ownsRow base 5 1 (.slice A' (n0 + k) c') (n0 + k) ((xs ++ numB x k).map byteV) ∧ Below base w w' ∧ Stay w w' := by
  have HO := Lib.hid ho
  clear ho
  have hk1 : IntKind.i64.wrap ((k : Int) - 1) = (k : Int) - 1 := IntWalk.i64_in _ ⟨by omega, by omega⟩
  go_enter Tryz.func97, Tryz.ntmps97
  go_wp2_with (fail)
  go_loopw [0, 9] (fun m i wr => ∃ (A : Option Addr) (c j n : Nat), j ≤ k ∧ i = .int .i64 (j : Nat) ∧ m = .slice A n c ∧ Hid (n = n0 + j) ∧ Hid (wr.ownsRow base 5 1 (.slice A n c) n ((xs ++ (numB x k).take j).map byteV)) ∧ Hid (Below base w wr ∧ Stay w wr)) (fun _ i _ => k - (intOf i).toNat)
  case atStart => exact ⟨A0, c0, 0, n0, by omega, rfl, rfl, Lib.hid rfl, Lib.hid (by simpa using HO.out), Lib.hid ⟨Below.refl _ _, Stay.refl _⟩⟩
  case round =>
    obtain ⟨A, c, j, n, hj, rfl, rfl, HN, HR, HB⟩ := hrel
    by_cases hlt : j < k
    · obtain ⟨i, hi⟩ : ∃ i : Nat, k = j + 1 + i := ⟨k - (j + 1), by omega⟩
      have e1 : IntKind.i64.wrap ((k : Int) - 1 - (j : Int)) = (i : Int) := by rw [IntWalk.i64_in _ ⟨by omega, by omega⟩]; omega
      have e2 : IntKind.i64.wrap (8 * (i : Int)) = 8 * (i : Int) := IntWalk.i64_in _ ⟨by omega, by omega⟩
      have e3 : wrap64 (8 * (i : Int)) = 8 * (i : Int) := by rw [← IntWalk.i64_left]; exact e2
      have hjj : (j : Int) < (k : Int) := by omega
      have e5 : IntKind.i64.wrap ((j : Int) + 1) = (j : Int) + 1 := IntWalk.i64_in _ ⟨by omega, by omega⟩
      have h0 : (0 : Int) ≤ (i : Int) := by omega
      have h7 : i ≤ 7 := by omega
      have hby : x / 2 ^ (8 * i) % 256 = ((byteI (x / 256 ^ i)).toNat : Int) := by
        rw [byteI_nat, show (2 : Int) ^ (8 * i) = 256 ^ i by rw [Int.pow_mul]; rfl]
      have hnx := numB_next x k j i hi
      generalize byteI (x / 256 ^ i) = b at *
      have HX := Lib.hid hnx
      have HI := Lib.hid hi
      have hm := Whole.made wr 5 #[.int .u8 (b.toNat : Int)]
      have HM := Lib.hid (Whole.sl hm [b] rfl (n := 1) rfl)
      have HG := Lib.hid (owned_grow HR.out (grows_alloc wr (.cells #[.int .u8 (b.toNat : Int)] 5)))
      clear hnx hm hi
      go_wp2_with (at_builtin
                   refine list_app isSl_bytes isSl_bytes rfl (.tmp 12) (.tmp 21) rfl (base := base) rfl HG.out (A := some ⟨wr.heap.size, 0, none⟩) (m := 1) (c := 1) rfl HM.out (n + 1) rfl (by have := HN.out; omega) (by have := HB.out.1.size; simp; omega) ?_
                   intro A2 c2 w2 ho2 hb2 hs2
                   have HO2 := Lib.hid ho2
                   have HB2 := Lib.hid (And.intro (Below.trans (HB.out.1.alloc (Nat.le_trans hb HB.out.1.size) _) hb2) (Stay.trans HB.out.2 (Stay.trans (Stay.grow (grows_alloc _ _)) hs2)))
                   clear ho2 hb2 hs2)
      go_roundw
      case rel => exact ⟨A2, c2, j + 1, n + 1, by omega, by first | rfl | go_num, rfl, Lib.hid (by have := HN.out; omega), Lib.hid (by rw [HX.out, ← List.append_assoc]; exact HO2.out), HB2⟩
      case measure => (simp [intOf] <;> omega)
    · obtain rfl : j = k := by omega
      have HR' := HR.out
      rw [List.take_of_length_le (by rw [numB_length]; omega), HN.out] at HR'
      have hN := HN.out
      subst hN
      have HF := Lib.hid HR'
      clear HR'
      go_wp2_with (fail)
      go_ret
      exact ⟨A, c, rfl, by simpa using HF.out, HB.out⟩
end Go.Proofs.YtdkpbphgaenlnaaGreat

/-
  Manifests that came in, one, and as a list.
-/
namespace Go.Proofs.YtdkpbphgaenlnaaGreat
open Go.ChangeShapes Go.WideShapes Go.ChangeAt Go.RowKit
set_option linter.unusedVariables false

def In64 (x : Int) : Prop := -9223372036854775808 ≤ x ∧ x ≤ 9223372036854775807
/-- A manifest, as functions are handed it. -/
structure MnIn (w : World) (A : Option Addr) (n c : Nat) (m : Mn) : Prop where
  segs : Ints w A n c m.segs
  each : ∀ x ∈ m.segs, In64 x
  next : In64 m.next
abbrev Mh := Option Addr × Nat × Nat
def mnL (m : Mn) (p : Mh) : List Value := [.slice p.1 p.2.1 p.2.2, .int .i64 m.next]
theorem MnIn.grow {w w' : World} {A : Option Addr} {n c : Nat} {m : Mn} (h : MnIn w A n c m) (hg : Grows w w') : MnIn w' A n c m := ⟨h.segs.grow hg, h.each, h.next⟩
structure Mans (w : World) (A : Option Addr) (n c : Nat) (ms : List Mn) : Prop where
  len : ms.length = n
  cap : n ≤ c
  spot : ∀ i, i < n → ∃ (ad : Addr) (m : Mn) (p : Mh), A = some ad ∧ ad.block < w.heap.size ∧ ms[i]? = some m ∧ MnIn w p.1 p.2.1 p.2.2 m ∧ ∀ k, k < 2 → w.cell? ((ad.add (i * 2)).add k) = (mnL m p)[k]?
theorem Mans.grow {w w' : World} {A : Option Addr} {n c : Nat} {ms : List Mn} (h : Mans w A n c ms) (hg : Grows w w') : Mans w' A n c ms := by
  refine ⟨h.len, h.cap, fun i hi => ?_⟩
  obtain ⟨ad, o, p, h1, h2, h3, h4, h5⟩ := h.spot i hi
  exact ⟨ad, o, p, h1, Nat.lt_of_lt_of_le h2 hg.size, h3, h4.grow hg, fun k hk => by rw [hg.cell (by rw [add_block, add_block]; exact h2)]; exact h5 k hk⟩
theorem mn_cells {w wr : World} {a : Addr} {o : Mn} {p : Mh} (hb : a.block < w.heap.size) (hc : ∀ k, k < 2 → w.cell? (a.add k) = (mnL o p)[k]?) (hg : Grows w wr) :
    wr.cell? a = some (.slice p.1 p.2.1 p.2.2) ∧ wr.cell? { block := a.block, off := a.off + 1 } = some (.int .i64 o.next) := by
  have key : ∀ k, k < 2 → wr.cell? (a.add k) = (mnL o p)[k]? := fun k hk => (hg.cell (by rw [add_block]; exact hb)).trans (hc k hk)
  have h0 := key 0 (by omega)
  rw [show a.add 0 = a by unfold Addr.add; simp] at h0
  have h1 := key 1 (by omega)
  rw [Addr.add_succ'] at h1
  exact ⟨h0, h1⟩
instance : Inhabited (Mn × Mh) := ⟨(Mn.none, (Option.none, 0, 0))⟩
section
variable {H : Type} {enc : TypeId × Value → H} {W : World} {base : Nat} {r : Reach}
set_option maxRecDepth 100000 in
theorem open_isM {m : Nat} {a : Value} {x : DataW H × List MemPlace} (h : DataW.trod enc Tryz.prog W 0 (fun _ => true) true m 29 [a] = some x) : ∃ A n c xs, a = .slice A n c ∧ Ints W A n c xs ∧ (n = 0 ∨ c * 8 ∈ x.1.weights Tryz.prog 29) ∧ ∀ x ∈ xs, -9223372036854775808 ≤ x ∧ x ≤ 9223372036854775807 := by
  rcases open_ints Tryz.underlying29 Tryz.underlying3 (by kernel_rfl) h with ⟨hcs, _⟩ | ⟨x, l, c, zs, hcs, _, hl, hm, hz, hx, hcell, hwz⟩
  · simp at hcs
    exact ⟨none, 0, 0, [], hcs, ⟨Row.nil _ _ _, Nat.le_refl _, fun _ => rfl⟩, .inl rfl, fun x hx => by cases hx⟩
  · simp at hcs
    have hz' : zs.length = c := by simpa using hz
    refine ⟨some x, l, c, zs.take l, hcs, ⟨⟨?_, fun k v hk => ?_⟩, hl, (fun h => by cases h)⟩, .inr ?_, fun y hy => bounds_i64 (hwz y (List.mem_of_mem_take hy))⟩
    rotate_right 1
    · rw [hx]
      simp only [DataW.weights, Tryz.underlying29]
      refine List.mem_cons.2 (.inl ?_)
      rw [show Tryz.prog.bytesOf 3 = 8 by kernel_rfl]
      simp only [lits, List.length_map, List.length_take, List.length_drop]
      congr 1
      omega
    · rw [List.length_map, List.length_take]
      omega
    · rw [List.getElem?_map, List.getElem?_take] at hk
      split at hk
      · rename_i hkn
        have hkz : k < zs.length := by omega
        rw [List.getElem?_eq_getElem hkz] at hk
        have hcl := hcell k hkz
        refine ⟨x, rfl, by have := World.block_lt_of_cell? W _ hcl; rwa [add_block] at this, ?_⟩
        simp only [Option.map_some, Option.some.injEq] at hk
        rw [hcl, ← hk, iV, List.getD_eq_getElem?_getD, List.getElem?_eq_getElem hkz]
        rfl
      · cases hk
set_option maxRecDepth 100000 in
theorem open_man {v : Value} {d : DataW H} {p : List MemPlace} (hv : Value.okWide Tryz.prog W r base 31 v) (h : DataW.Trod enc Tryz.prog W 0 (fun _ => true) true 31 v d p) :
    ∃ (A : Option Addr) (n c : Nat) (m : Mn), v = .agg #[.slice A n c, .int .i64 m.next] ∧ MnIn W A n c m := by
  obtain ⟨fuel, hf⟩ := h
  obtain ⟨xs, m, e1, e2, e3, e4, e5⟩ := DataW.trod_struct Tryz.underlying31 hf
  have c7 : Tryz.prog.cellsOf 31 = 2 := by kernel_rfl
  have ci : Tryz.prog.cellsOf 3 = 1 := by kernel_rfl
  have cl : Tryz.prog.cellsOf 29 = 1 := by kernel_rfl
  simp only [Value.okWide, Tryz.underlying31] at hv
  obtain ⟨cells, rfl, hsz, _⟩ := hv
  rw [c7] at hsz
  have hcl : (Value.agg cells).cells.toList = cells.toList := rfl
  rw [hcl] at e5
  obtain ⟨l, hl⟩ : ∃ l, cells.toList = l := ⟨_, rfl⟩
  have hll : l.length = 2 := by rw [← hl]; simpa using hsz
  have hca : cells = l.toArray := by rw [← hl]
  rw [hl] at e5
  match xs, e4, l, hll with
  | [x0, x1], _, [a0, a1], _ =>
    have g0 : DataW.trod enc Tryz.prog W 0 (fun _ => true) true m 29 [a0] = some x0 := by
      have h := e5 0 { name := "Segs", type := 29, offset := 0, embedded := false, tag := "", pkgPath := "", byteOffset := 0 } rfl
      dsimp only at h
      rw [cl] at h
      exact h
    have g1 : DataW.trod enc Tryz.prog W 0 (fun _ => true) true m 3 [a1] = some x1 := by
      have h := e5 1 { name := "Next", type := 3, offset := 1, embedded := false, tag := "", pkgPath := "", byteOffset := 24 } rfl
      dsimp only at h
      rw [ci] at h
      exact h
    obtain ⟨A, n, c, is, q0, hI, _, hIb⟩ := open_isM g0
    obtain ⟨z1, q1, _, b1⟩ := DataW.trod_int Tryz.underlying3 g1
    simp at q1
    subst q0 q1
    exact ⟨A, n, c, ⟨is, z1⟩, by rw [hca], ⟨hI, hIb, bounds_i64 b1⟩⟩
end
end Go.Proofs.YtdkpbphgaenlnaaGreat
