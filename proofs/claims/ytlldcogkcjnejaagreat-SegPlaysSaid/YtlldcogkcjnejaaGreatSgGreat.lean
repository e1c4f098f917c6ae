import Derived.Test.YtlldcogkcjnejaaGreatSgOps
import Derived.Test.YtlldcogkcjnejaaGreatMG15
namespace Go.Proofs.YtlldcogkcjnejaaGreat
open Go.Lib (hid)
open Go.RowKit
theorem Zrw (t q : Nat) (h : min t 20000 = q) : (if (20000 : Int) < (t : Int) then (20000 : Int) else (t : Int)) = (q : Int) := by split <;> omega
def o9len (o : O9) : Nat := o.x.b.length + o.x.key.length + 10 * o.x.locs.length + o.bytes.length
def o9min (os : List O9) : Nat := (os.map fun o => min (o9len o) 20000).sum
def o9all (os : List O9) : Nat := (os.map o9len).sum
theorem Zoh {os : List O9} {i : Nat} {o : O9} (h : os[i]? = some o) : o9min (os.take (i + 1)) = o9min (os.take i) + min (o9len o) 20000 := by
 unfold o9min
 rw [List.take_add_one, h, List.map_append, List.sum_append]
 simp
theorem Zoi {os : List O9} {i : Nat} {o : O9} (h : os[i]? = some o) : o9all (os.take (i + 1)) = o9all (os.take i) + o9len o := by
 unfold o9all
 rw [List.take_add_one, h, List.map_append, List.sum_append]
 simp
theorem Zli (os : List O9) (i : Nat) : o9all (os.take i) ≤ o9all os := by
 unfold o9all
 conv => rhs; rw [← List.take_append_drop i os, List.map_append, List.sum_append]
 omega
theorem o9min_small : ∀ {os : List O9}, o9min os < 20000 → o9all os = o9min os
 | [], _ => rfl
 | o :: os, h => by
   unfold o9min at h
   rw [List.map_cons, List.sum_cons] at h
   have h2 : o9min os < 20000 := by unfold o9min; omega
   have := o9min_small h2
   unfold o9all o9min at *
   rw [List.map_cons, List.sum_cons, List.map_cons, List.sum_cons, this]
   omega

set_option maxRecDepth 100000 in
set_option maxHeartbeats 8000000 in
theorem Zlj (A : Option Addr) (n c : Nat) (os : List O9) (w : World) (hx : Ops9 w A n c os) :
 Calls Tryz.prog 7 #[.slice A n c] w fun e w' => (e = .returned (.bool true) ∧ Grows w w') ∨ (e = .returned (.bool false) ∧ n ≤ 100 ∧ n + o9all os < 20000 ∧ Grows w w') := by
 have HX := hid hx
 have HLEN := hid hx.len
 have hnc := hx.cap
 have htop := hx.top
 clear hx
 go_enter Tryz.func7, Tryz.ntmps7
 go_wp2_with (fail)
 by_cases hbig : 20000 ≤ n
 ·have hb1 : ¬ n < 20000 := by omega
  have hb2 : ¬ (n : Int) < 20000 := by omega
  have hb3 : (20000 : Int) ≤ (n : Int) := by omega
  go_loopw [3, 4] (fun vn vi wr => vn = .int .i64 (n : Nat) ∧ vi = .int .i64 0 ∧ w = wr) (fun _ _ _ => 0)
  case atStart => exact ⟨rfl, rfl, rfl⟩
  case round =>
   obtain ⟨rfl, rfl, rfl⟩ := hrel
   have h0 : (0 : Int) < (n : Int) := by omega
   have h0' : 0 < n := by omega
   go_wp2_with (fail)
   go_ret
   exact .inl ⟨rfl, Grows.refl _⟩
 ·go_loopw [3, 4] (fun vn vi wr => ∃ k acc : Nat, k ≤ n ∧ acc ≤ 40000 ∧ vn = .int .i64 (acc : Nat) ∧ vi = .int .i64 (k : Nat) ∧ Hid (acc = n + o9min (os.take k)) ∧ Hid (Grows w wr)) (fun _ i _ => n - (intOf i).toNat)
  case atStart => exact ⟨0, n, Nat.zero_le _, by omega, rfl, rfl, hid (by simp [o9min]), hid (Grows.refl _)⟩
  case round =>
   obtain ⟨k, acc, hk, hacc, rfl, rfl, HACC, HG⟩ := hrel
   by_cases hlt : k < n
   ·by_cases hac : acc < 20000
    ·obtain ⟨ad, o, p, rfl, hblk, hoi, hat, hcs⟩ := HX.out.spot k hlt
     have k0 : (0 : Int) ≤ (k : Int) := by omega
     have k1 : (k : Int) < (n : Int) := by omega
     have ka : (acc : Int) < 20000 := by omega
     have ii : IntKind.i64.wrap ((k : Int) + 1) = (k : Int) + 1 := wadd k 1 (k + 1) rfl (by omega)
     obtain ⟨s1, hs1⟩ : ∃ s : ByteArray, (⟨o.x.key.toArray⟩ : ByteArray) = s := ⟨_, rfl⟩
     obtain ⟨x1, hx1⟩ : ∃ x, s1.size = x := ⟨_, rfl⟩
     have hn1 : x1 = o.x.key.length := by rw [← hx1, ← hs1]; simp [ByteArray.size]
     have hlb := hat.x.sl.len
     have hll := hat.x.locs.len
     have hli := hat.bytes.len
     have hsm := hat.small
     have c3 : ∀ w', Grows wr w' → w'.cell? { block := (ad.add (k * 12)).block, off := (ad.add (k * 12)).off + 3 } = some (.string s1) := fun w' hg => by
      have := hcs 3 (by omega)
      rw [Zdz] at this
      rw [(Grows.trans HG.out hg).cell (by rw [Z4]; exact hblk), this, ← hs1]
      rfl
     have c7 : ∀ w', Grows wr w' → w'.cell? { block := (ad.add (k * 12)).block, off := (ad.add (k * 12)).off + 7 } = some (.slice p.LA p.ln p.lc) := fun w' hg => by
      have := hcs 7 (by omega)
      rw [Zdz] at this
      rw [(Grows.trans HG.out hg).cell (by rw [Z4]; exact hblk), this]
      rfl
     have c8 : ∀ w', Grows wr w' → w'.cell? { block := (ad.add (k * 12)).block, off := (ad.add (k * 12)).off + 8 } = some (.slice p.BA p.bn p.bc) := fun w' hg => by
      have := hcs 8 (by omega)
      rw [Zdz] at this
      rw [(Grows.trans HG.out hg).cell (by rw [Z4]; exact hblk), this]
      rfl
     have c10 : ∀ w', Grows wr w' → w'.cell? { block := (ad.add (k * 12)).block, off := (ad.add (k * 12)).off + 10 } = some (.slice p.IA p.im p.ic) := fun w' hg => by
      have := hcs 10 (by omega)
      rw [Zdz] at this
      rw [(Grows.trans HG.out hg).cell (by rw [Z4]; exact hblk), this]
      rfl
     have HCF := hid (fun w' hg => And.intro (c3 w' hg) (And.intro (c7 w' hg) (And.intro (c8 w' hg) (c10 w' hg))))
     obtain ⟨t1, ht1⟩ : ∃ t, p.bn + x1 = t := ⟨_, rfl⟩
     obtain ⟨tm, htm⟩ : ∃ t, 10 * p.ln = t := ⟨_, rfl⟩
     obtain ⟨t2, ht2⟩ : ∃ t, t1 + tm = t := ⟨_, rfl⟩
     obtain ⟨t3, ht3⟩ : ∃ t, t2 + p.im = t := ⟨_, rfl⟩
     have w1 := wadd _ _ _ ht1 (by omega)
     have wm : IntKind.i64.wrap (10 * (p.ln : Int)) = (tm : Int) := by rw [IntWalk.i64_in _ (by omega)]; omega
     have w2 := wadd _ _ _ ht2 (by omega)
     have w3 := wadd _ _ _ ht3 (by omega)
     have ht : o9len o = t3 := by unfold o9len; omega
     have HT := hid (And.intro ht hoi)
     obtain ⟨bn, hbn⟩ : ∃ x, p.bn = x := ⟨_, rfl⟩
     obtain ⟨im, him⟩ : ∃ x, p.im = x := ⟨_, rfl⟩
     obtain ⟨ln, hln⟩ : ∃ x, p.ln = x := ⟨_, rfl⟩
     have HPQ := hid (And.intro hbn (And.intro him hln))
     rw [hbn] at w1
     rw [him] at w3
     rw [hln] at wm
     have hmn : min t3 20000 ≤ 20000 := by omega
     obtain ⟨q, hq⟩ : ∃ q, min t3 20000 = q := ⟨_, rfl⟩
     have w4 := wadd acc q (acc + q) rfl (by omega)
     have HVAL := hid (show acc + q = n + o9min (os.take (k + 1)) by rw [Zoh HT.out.2, HT.out.1, hq]; have := HACC.out; omega)
     have HLQ := hid (show acc + q ≤ 40000 by omega)
     have HW := hid (And.intro w1 (And.intro wm (And.intro w2 (And.intro w3 w4))))
     clear hlb hll hli hsm ht hoi hat hcs c3 c7 c8 c10 hn1 ht1 ht2 ht3 htm hbn him hln hmn hs1
     have hlen1 : s1.size = x1 := hx1
     go_wp2_with (fail)
     refine Zo (by kernel_rfl) (by kernel_rfl) ?_
     iterate 35 (refine q_op' (v := ?_) (a' := ?_) (by rfl) ?_ ?_ ?_
                 rotate_left 2
                 ·intro w' hC
                  obtain ⟨z1, z2, z3, z5⟩ := HCF.out w' hC
                  first
                   | (go_simp; done)
                   | (go_simp; with_reducible rfl)

                 ·simp only [Pu]
                  try rfl)
     refine wpQuiet_nil ?_
     intro w5 hC
     have HG5 := hid (Grows.trans HG.out hC)
     clear hC HCF HG
     go_wp2_with (fail)
     refine ⟨⟨k + 1, acc + q, hlt, HLQ.out, ?_, rfl, HVAL, HG5⟩, Zjo hlt⟩
     obtain ⟨w1, wm, w2, w3, w4⟩ := HW.out
     have hz := Zrw t3 q hq
     have hm : min (t3 : Int) 20000 = (q : Int) := by split at hz <;> omega
     rw [HPQ.out.1, HPQ.out.2.1, HPQ.out.2.2, w1, wm, w2, w3, hm, w4]
    ·have ka : ¬ (acc : Int) < 20000 := by omega
     have kb : (20000 : Int) ≤ (acc : Int) := by omega
     have k1 : (k : Int) < (n : Int) := by omega
     go_wp2_with (fail)
     go_ret
     exact .inl ⟨rfl, HG.out⟩
   ·obtain rfl : k = n := by omega
    by_cases h2 : 20000 ≤ acc
    ·have h3 : (20000 : Int) ≤ (acc : Int) := by omega
     go_wp2_with (fail)
     go_ret
     exact .inl ⟨rfl, HG.out⟩
    ·have h3 : ¬ (20000 : Int) ≤ (acc : Int) := by omega
     by_cases h5 : 100 < k
     ·have h6 : (100 : Int) < (k : Int) := by omega
      go_wp2_with (fail)
      go_ret
      exact .inl ⟨rfl, HG.out⟩
     ·have h6 : ¬ (100 : Int) < (k : Int) := by omega
      have HFIN := hid (show k ≤ 100 ∧ k + o9all os < 20000 by
       have h1 := HACC.out
       rw [List.take_of_length_le (by rw [HLEN.out]; exact Nat.le_refl _)] at h1
       rw [o9min_small (by omega)]
       omega)
      go_wp2_with (fail)
      go_ret
      exact .inr ⟨rfl, HFIN.out.1, HFIN.out.2, HG.out⟩
end Go.Proofs.YtlldcogkcjnejaaGreat
