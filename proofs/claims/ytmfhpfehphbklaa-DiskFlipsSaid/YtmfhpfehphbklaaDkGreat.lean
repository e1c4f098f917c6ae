/-
  Are the calls that came in too many?
-/
import Derived.Test.YtmfhpfehphbklaaDkOps
import Derived.Test.YtmfhpfehphbklaaQuiet
import Derived.ProofKit
import Derived.ChangeOld
namespace Go.Proofs.Ytmfhpfehphbklaa
open Go.ChangeShapes Go.WideShapes Go.ChangeAt Go.RowKit
set_option linter.unusedSimpArgs false
set_option linter.unusedVariables false

theorem wadd (a b s : Nat) (h : a + b = s) (hs : s ≤ 9000000000000000000) : IntKind.i64.wrap ((a : Int) + (b : Int)) = (s : Int) := by
  rw [IntWalk.i64_in _ (by omega)]; omega
theorem add_fld (a : Addr) (k : Nat) : a.add (k + 1) = { block := a.block, off := a.off + (k + 1) } := Addr.add_succ' a k
theorem minval (t q : Nat) (h : min t 9000 = q) : (if (9000 : Int) < (t : Int) then (9000 : Int) else (t : Int)) = (q : Int) := by split <;> omega
theorem less_one {k n : Nat} (h : k < n) : n - (intOf (Value.int IntKind.i64 ((k : Int) + 1))).toNat < n - (intOf (Value.int IntKind.i64 (k : Int))).toNat := by
  simp only [intOf]
  omega
theorem o8_cells {w wr : World} {a : Addr} {o : O8} {p : P8} (hb : a.block < w.heap.size) (hc : ∀ k, k < 7 → w.cell? (a.add k) = (o8V o p)[k]?) (hg : Grows w wr) :
    wr.cell? a = some (.int .i64 o.what) ∧ wr.cell? { block := a.block, off := a.off + 1 } = some (.string ⟨o.name.toArray⟩) ∧ wr.cell? { block := a.block, off := a.off + 2 } = some (.string ⟨o.to.toArray⟩) ∧
      wr.cell? { block := a.block, off := a.off + 3 } = some (.slice p.BA p.bn p.bc) ∧ wr.cell? { block := a.block, off := a.off + 4 } = some (.int .i64 o.n) ∧ wr.cell? { block := a.block, off := a.off + 5 } = some (.slice p.IA p.im p.ic) ∧
      wr.cell? { block := a.block, off := a.off + 6 } = some (.int .u32 o.bits) := by
  have key : ∀ k, k < 7 → wr.cell? (a.add k) = (o8V o p)[k]? := fun k hk => (hg.cell (by rw [add_block]; exact hb)).trans (hc k hk)
  have h0 := key 0 (by omega)
  rw [show a.add 0 = a by unfold Addr.add; simp] at h0
  have h1 := key 1 (by omega)
  have h2 := key 2 (by omega)
  have h3 := key 3 (by omega)
  have h4 := key 4 (by omega)
  have h5 := key 5 (by omega)
  have h6 := key 6 (by omega)
  rw [add_fld] at h1 h2 h3 h4 h5 h6
  exact ⟨h0, h1, h2, h3, h4, h5, h6⟩
def o8len (o : O8) : Nat := o.b.length + o.name.length + o.to.length + o.bytes.length
def o8min (os : List O8) : Nat := (os.map fun o => min (o8len o) 9000).sum
def o8all (os : List O8) : Nat := (os.map o8len).sum
theorem o8min_one {os : List O8} {i : Nat} {o : O8} (h : os[i]? = some o) : o8min (os.take (i + 1)) = o8min (os.take i) + min (o8len o) 9000 := by
  unfold o8min
  rw [List.take_add_one, h, List.map_append, List.sum_append]
  simp
theorem o8all_one {os : List O8} {i : Nat} {o : O8} (h : os[i]? = some o) : o8all (os.take (i + 1)) = o8all (os.take i) + o8len o := by
  unfold o8all
  rw [List.take_add_one, h, List.map_append, List.sum_append]
  simp
theorem o8all_take (os : List O8) (i : Nat) : o8all (os.take i) ≤ o8all os := by
  unfold o8all
  conv => rhs; rw [← List.take_append_drop i os, List.map_append, List.sum_append]
  omega
theorem o8min_small : ∀ {os : List O8}, o8min os < 9000 → o8all os = o8min os
  | [], _ => rfl
  | o :: os, h => by
    unfold o8min at h
    rw [List.map_cons, List.sum_cons] at h
    have h2 : o8min os < 9000 := by unfold o8min; omega
    have := o8min_small h2
    unfold o8all o8min at *
    rw [List.map_cons, List.sum_cons, List.map_cons, List.sum_cons, this]
    omega

set_option maxRecDepth 100000 in
set_option maxHeartbeats 8000000 in
theorem great8_any (A : Option Addr) (n c : Nat) (os : List O8) (w : World) (hx : Ops8 w A n c os) :
    Calls Try.prog 25 #[.slice A n c] w fun e w' => (e = .returned (.bool true) ∧ Grows w w') ∨ (e = .returned (.bool false) ∧ n ≤ 150 ∧ n + o8all os < 9000 ∧ Grows w w') := by
  have HX := Lib.hid hx
  have HLEN := Lib.hid hx.len
  have hnc := hx.cap
  have htop := hx.top
  clear hx
  go_enter Try.func25, Try.ntmps25
  go_wp2_with (fail)
  by_cases hbig : 9000 ≤ n
  · have hb1 : ¬ n < 9000 := by omega
    have hb2 : ¬ (n : Int) < 9000 := by omega
    have hb3 : (9000 : Int) ≤ (n : Int) := by omega
    go_loopw [3, 4] (fun vn vi wr => vn = .int .i64 (n : Nat) ∧ vi = .int .i64 0 ∧ w = wr) (fun _ _ _ => 0)
    case atStart => exact ⟨rfl, rfl, rfl⟩
    case round =>
      obtain ⟨rfl, rfl, rfl⟩ := hrel
      have h0 : (0 : Int) < (n : Int) := by omega
      have h0' : 0 < n := by omega
      go_wp2_with (fail)
      go_ret
      exact .inl ⟨rfl, Grows.refl _⟩
  · go_loopw [3, 4] (fun vn vi wr => ∃ k acc : Nat, k ≤ n ∧ acc ≤ 18000 ∧ vn = .int .i64 (acc : Nat) ∧ vi = .int .i64 (k : Nat) ∧ Hid (acc = n + o8min (os.take k)) ∧ Hid (Grows w wr)) (fun _ i _ => n - (intOf i).toNat)
    case atStart => exact ⟨0, n, Nat.zero_le _, by omega, rfl, rfl, Lib.hid (by simp [o8min]), Lib.hid (Grows.refl _)⟩
    case round =>
      obtain ⟨k, acc, hk, hacc, rfl, rfl, HACC, HG⟩ := hrel
      by_cases hlt : k < n
      · by_cases hac : acc < 9000
        · obtain ⟨ad, o, p, rfl, hblk, hoi, hat, hcs⟩ := HX.out.spot k hlt
          have k0 : (0 : Int) ≤ (k : Int) := by omega
          have k1 : (k : Int) < (n : Int) := by omega
          have ka : (acc : Int) < 9000 := by omega
          have ii : IntKind.i64.wrap ((k : Int) + 1) = (k : Int) + 1 := wadd k 1 (k + 1) rfl (by omega)
          obtain ⟨s1, hs1⟩ : ∃ s : ByteArray, (⟨o.name.toArray⟩ : ByteArray) = s := ⟨_, rfl⟩
          obtain ⟨s2, hs2⟩ : ∃ s : ByteArray, (⟨o.to.toArray⟩ : ByteArray) = s := ⟨_, rfl⟩
          obtain ⟨x1, hx1⟩ : ∃ x, s1.size = x := ⟨_, rfl⟩
          obtain ⟨x2, hx2⟩ : ∃ x, s2.size = x := ⟨_, rfl⟩
          have hn1 : x1 = o.name.length := by rw [← hx1, ← hs1]; simp [ByteArray.size]
          have hn2 : x2 = o.to.length := by rw [← hx2, ← hs2]; simp [ByteArray.size]
          have hlb := hat.b.len
          have hli := hat.bytes.len
          have hsm := hat.small
          have c1 : ∀ w', Grows wr w' → w'.cell? { block := (ad.add (k * 7)).block, off := (ad.add (k * 7)).off + 1 } = some (.string s1) := fun w' hg => by
            have := hcs 1 (by omega)
            rw [add_fld] at this
            rw [(Grows.trans HG.out hg).cell (by rw [add_block]; exact hblk), this, ← hs1]
            rfl
          have c2 : ∀ w', Grows wr w' → w'.cell? { block := (ad.add (k * 7)).block, off := (ad.add (k * 7)).off + 2 } = some (.string s2) := fun w' hg => by
            have := hcs 2 (by omega)
            rw [add_fld] at this
            rw [(Grows.trans HG.out hg).cell (by rw [add_block]; exact hblk), this, ← hs2]
            rfl
          have c3 : ∀ w', Grows wr w' → w'.cell? { block := (ad.add (k * 7)).block, off := (ad.add (k * 7)).off + 3 } = some (.slice p.BA p.bn p.bc) := fun w' hg => by
            have := hcs 3 (by omega)
            rw [add_fld] at this
            rw [(Grows.trans HG.out hg).cell (by rw [add_block]; exact hblk), this]
            rfl
          have c5 : ∀ w', Grows wr w' → w'.cell? { block := (ad.add (k * 7)).block, off := (ad.add (k * 7)).off + 5 } = some (.slice p.IA p.im p.ic) := fun w' hg => by
            have := hcs 5 (by omega)
            rw [add_fld] at this
            rw [(Grows.trans HG.out hg).cell (by rw [add_block]; exact hblk), this]
            rfl
          have HCF := Lib.hid (fun w' hg => And.intro (c1 w' hg) (And.intro (c2 w' hg) (And.intro (c3 w' hg) (c5 w' hg))))
          obtain ⟨t1, ht1⟩ : ∃ t, p.bn + x1 = t := ⟨_, rfl⟩
          obtain ⟨t2, ht2⟩ : ∃ t, t1 + x2 = t := ⟨_, rfl⟩
          obtain ⟨t3, ht3⟩ : ∃ t, t2 + p.im = t := ⟨_, rfl⟩
          have w1 := wadd _ _ _ ht1 (by omega)
          have w2 := wadd _ _ _ ht2 (by omega)
          have w3 := wadd _ _ _ ht3 (by omega)
          have ht : o8len o = t3 := by unfold o8len; omega
          have HT := Lib.hid (And.intro ht hoi)
          obtain ⟨bn, hbn⟩ : ∃ x, p.bn = x := ⟨_, rfl⟩
          obtain ⟨im, him⟩ : ∃ x, p.im = x := ⟨_, rfl⟩
          have HPQ := Lib.hid (And.intro hbn him)
          rw [hbn] at w1
          rw [him] at w3
          have hmn : min t3 9000 ≤ 9000 := by omega
          obtain ⟨q, hq⟩ : ∃ q, min t3 9000 = q := ⟨_, rfl⟩
          have w4 := wadd acc q (acc + q) rfl (by omega)
          have HVAL := Lib.hid (show acc + q = n + o8min (os.take (k + 1)) by rw [o8min_one HT.out.2, HT.out.1, hq]; have := HACC.out; omega)
          have HLQ := Lib.hid (show acc + q ≤ 18000 by omega)
          clear hlb hli hsm ht hoi hat hcs c1 c2 c3 c5 hn1 hn2 ht1 ht2 ht3 hbn him hmn hs1 hs2
          have hlen1 : s1.size = x1 := hx1
          go_wp2_with (fail)
          refine q_region (by kernel_rfl) (by kernel_rfl) ?_
          iterate 31 (refine q_op' (v := ?_) (a' := ?_) (by rfl) ?_ ?_ ?_
                      rotate_left 2
                      · intro w' hC
                        obtain ⟨z1, z2, z3, z5⟩ := HCF.out w' hC
                        first
                          | (go_simp; done)
                          | (go_simp; with_reducible rfl)
                         
                      · simp only [Act.put, List.setIfInBounds_toArray, List.set_cons_zero, List.set_cons_succ]
                        try rfl)
          refine wpQuiet_nil ?_
          intro w5 hC
          have HG5 := Lib.hid (Grows.trans HG.out hC)
          clear hC HCF HG
          go_wp2_with (fail)
          refine ⟨⟨k + 1, acc + q, hlt, HLQ.out, ?_, rfl, HVAL, HG5⟩, less_one hlt⟩
          rw [HPQ.out.1, HPQ.out.2, w1, w2, w3, minval t3 q hq, w4]
        · have ka : ¬ (acc : Int) < 9000 := by omega
          have kb : (9000 : Int) ≤ (acc : Int) := by omega
          have k1 : (k : Int) < (n : Int) := by omega
          go_wp2_with (fail)
          go_ret
          exact .inl ⟨rfl, HG.out⟩
      · obtain rfl : k = n := by omega
        by_cases h2 : 9000 ≤ acc
        · have h3 : (9000 : Int) ≤ (acc : Int) := by omega
          go_wp2_with (fail)
          go_ret
          exact .inl ⟨rfl, HG.out⟩
        · have h3 : ¬ (9000 : Int) ≤ (acc : Int) := by omega
          by_cases h5 : 150 < k
          · have h6 : (150 : Int) < (k : Int) := by omega
            go_wp2_with (fail)
            go_ret
            exact .inl ⟨rfl, HG.out⟩
          · have h6 : ¬ (150 : Int) < (k : Int) := by omega
            have HFIN := Lib.hid (show k ≤ 150 ∧ k + o8all os < 9000 by
              have h1 := HACC.out
              rw [List.take_of_length_le (by rw [HLEN.out]; exact Nat.le_refl _)] at h1
              rw [o8min_small (by omega)]
              omega)
            go_wp2_with (fail)
            go_ret
            exact .inr ⟨rfl, HFIN.out.1, HFIN.out.2, HG.out⟩
end Go.Proofs.Ytmfhpfehphbklaa
