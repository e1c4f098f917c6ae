/-
  FrameBack holds of any three runs of bytes: what is in a frame is got of it, whatever stands behind, and what is got of any bytes has the frame that they begin with; no condition.
-/
import Derived.Test.YtfefghnincjlgaaHead2
import Derived.Test.YtfefghnincjlgaaFrameFacts
import Derived.Test.YtfefghnincjlgaaCame
namespace Go.Proofs.Ytfefghnincjlgaa
open Go.ChangeShapes Go.WideShapes Go.ChangeAt Go.RowKit

set_option maxRecDepth 100000 in
set_option maxHeartbeats 4000000 in
theorem back_big {w : World} (A : Option Addr) (n c : Nat) (bs : List UInt8) (ha : Came w A n c bs) (B : Option Addr) (m d : Nat) (ms : List UInt8) (hb : Came w B m d ms) (C : Option Addr) (k0 e0 : Nat) (cs : List UInt8) (hc : Came w C k0 e0 cs) (hbig : 30000 < n + m + k0) :
    Calls Try.prog 4 #[.slice A n c, .slice B m d, .slice C k0 e0] w fun e w' => e = .returned (.bool true) ∧ Below w.heap.size w w' := by
  have hla := ha.bytes.len
  have hlc := hc.bytes.len
  have r1 := ha.reach
  have r2 := ha.cap
  have r3 := hb.reach
  have r4 := hb.cap
  have r5 := hc.reach
  have r6 := hc.cap
  have HA := Lib.hid ha.sl
  have HB := Lib.hid hb.sl
  have HCC := Lib.hid hc.sl
  clear ha hb hc
  have dbig : decide ((30000 : Int) < (n : Int) + (m : Int) + (k0 : Int)) = true := by simp; omega
  go_enter Try.func4, Try.ntmps4
  go_wp2_with (fail)
  refine (head2_any _).mono ?_
  rintro e w1 ⟨rfl, hb1⟩
  have HG1 := Lib.hid (show Grows w w1 from hb1)
  clear hb1
  go_wp2_with (fail)
  go_ret
  exact ⟨rfl, HG1.out⟩

set_option maxRecDepth 100000 in
set_option maxHeartbeats 4000000 in
theorem back_none {w : World} (A : Option Addr) (n c : Nat) (bs : List UInt8) (ha : Came w A n c bs) (B : Option Addr) (m d : Nat) (ms : List UInt8) (hb : Came w B m d ms) (C : Option Addr) (k0 e0 : Nat) (cs : List UInt8) (hc : Came w C k0 e0 cs) (hsmall : ¬ 30000 < n + m + k0) (hn : n = 0) :
    Calls Try.prog 4 #[.slice A n c, .slice B m d, .slice C k0 e0] w fun e w' => e = .returned (.bool true) ∧ Below w.heap.size w w' := by
  have hla := ha.bytes.len
  have hlc := hc.bytes.len
  have r1 := ha.reach
  have r2 := ha.cap
  have r3 := hb.reach
  have r4 := hb.cap
  have r5 := hc.reach
  have r6 := hc.cap
  have HA := Lib.hid ha.sl
  have HB := Lib.hid hb.sl
  have HCC := Lib.hid hc.sl
  clear ha hb hc
  have hf : ¬ (1 ≤ n ∧ n ≤ 8192) := by omega
  have dbig : decide ((30000 : Int) < (n : Int) + (m : Int) + (k0 : Int)) = false := by simp; omega
  have hz : sizeN (n : Int) = 0 := by unfold sizeN; rw [if_neg (by omega)]
  have df : decide ((1 : Int) ≤ (n : Int)) = false := by simp; omega
  have HN := Lib.hid hn
  clear hn
  go_enter Try.func4, Try.ntmps4
  go_wp2_with (fail)
  refine (head2_any _).mono ?_
  rintro e w1 ⟨rfl, hb1⟩
  have HG1 := Lib.hid (show Grows w w1 from hb1)
  clear hb1
  go_wp2_with (fail)
  refine (put_any A n c bs w1 (HA.out.grow HG1.out) (by unfold maxLen; omega)).mono ?_
  rintro e w2 ⟨A2, m2, c2, rfl, hs2, hb2⟩
  have hput : putB bs = [] := by unfold putB; rw [hla, if_neg hf]
  have hm := hs2.len
  rw [hput] at hs2 hm
  change 0 = m2 at hm
  subst hm
  have HS2 := Lib.hid hs2
  have HG2 := Lib.hid (Grows.trans HG1.out hb2)
  clear hs2 hb2 hput HG1
  go_wp2_with (fail)
  refine (size_any _ _ (by omega) (by omega)).mono ?_
  rintro e w3 ⟨rfl, rfl⟩
  go_wp2_with (fail)
  generalize hfc : firstB cs = r at *
  obtain ⟨y, k, er⟩ := r
  have HFC := Lib.hid hfc
  clear hfc
  refine (first_any C k0 e0 cs _ (HCC.out.grow HG2.out) (by omega)).mono ?_
  rw [HFC.out]
  rintro e w5 ⟨A5, m5, c5, rfl, hs5, hb5⟩
  have hl5 := hs5.len
  dsimp only at hl5
  have HS5 := Lib.hid hs5
  have HG5 := Lib.hid (Grows.trans HG2.out hb5)
  have HC5 := Lib.hid (HCC.out.grow HG5.out)
  clear hs5 hb5
  by_cases her : er = 0
  · subst her
    obtain ⟨h9, hk9, hgot⟩ := first_got HFC.out
    rw [hlc] at hk9
    have hm5 : m5 ≤ maxLen := by
      have h1 := congrArg List.length hgot
      have h2 := putB_length y
      rw [List.length_take, hlc] at h1
      unfold sizeN at h2
      unfold maxLen
      split at h2 <;> omega
    have HGOT := Lib.hid hgot
    have HLB : Hid ((0 : Int) ≤ (k : Int) ∧ (k : Int) ≤ (e0 : Int)) := ⟨by omega, by omega⟩
    have d1 : decide ((9 : Int) ≤ (k : Int)) = true := by simp; omega
    have d2 : decide ((k : Int) ≤ (k0 : Int)) = true := by simp; omega
    clear hgot
    go_wp2_with (fail)
    refine wp_region_facts (E := Grows) [valFact (.bool true), valFact (.bool true), valFact (.int .i64 (k : Int)), valFact (.bool true), valFact (.bool true), valFact (.bool true), valFact (.int .i64 (k : Int)), valFact (.slice C k0 e0), valFact (.int .i64 (k0 : Int)), valFact (.bool true), valFact (.bool true), valFact (.bool true), valFact (.slice A5 m5 c5), slFact (putB y), valFact (.string ⟨(putB y).toArray⟩), valFact (.slice C k0 e0), valFact (.int .i64 (k : Int)), valFact (.slice C k e0), valFact (.string ⟨(cs.take k).toArray⟩), valFact (.bool true), valFact (.bool true), valFact (.bool true)] (by kernel_rfl) (by kernel_rfl) (fun _ _ _ => Grows.trans) (grows_drew _) ?_
    refine f_val (.bool true) (by rfl) ?_ ?_
    · intro w' hC; clear hC; go_simp
    simp only [Act.put, List.setIfInBounds_toArray, List.set_cons_zero, List.set_cons_succ]
    refine f_val (.bool true) (by rfl) ?_ ?_
    · intro w' hC; clear hC; go_simp
    simp only [Act.put, List.setIfInBounds_toArray, List.set_cons_zero, List.set_cons_succ]
    refine f_val (.int .i64 (k : Int)) (by rfl) ?_ ?_
    · intro w' hC; clear hC; go_simp
    simp only [Act.put, List.setIfInBounds_toArray, List.set_cons_zero, List.set_cons_succ]
    refine f_val (.bool true) (by rfl) ?_ ?_
    · intro w' hC; clear hC; go_simp
    simp only [Act.put, List.setIfInBounds_toArray, List.set_cons_zero, List.set_cons_succ]
    refine f_val (.bool true) (by rfl) ?_ ?_
    · intro w' hC; clear hC; go_simp
    simp only [Act.put, List.setIfInBounds_toArray, List.set_cons_zero, List.set_cons_succ]
    refine f_val (.bool true) (by rfl) ?_ ?_
    · intro w' hC; clear hC; go_simp
    simp only [Act.put, List.setIfInBounds_toArray, List.set_cons_zero, List.set_cons_succ]
    refine f_val (.int .i64 (k : Int)) (by rfl) ?_ ?_
    · intro w' hC; clear hC; go_simp
    simp only [Act.put, List.setIfInBounds_toArray, List.set_cons_zero, List.set_cons_succ]
    refine f_val (.slice C k0 e0) (by rfl) ?_ ?_
    · intro w' hC; clear hC; go_simp
    simp only [Act.put, List.setIfInBounds_toArray, List.set_cons_zero, List.set_cons_succ]
    refine f_val (.int .i64 (k0 : Int)) (by rfl) ?_ ?_
    · intro w' hC; clear hC; go_simp
    simp only [Act.put, List.setIfInBounds_toArray, List.set_cons_zero, List.set_cons_succ]
    refine f_val (.bool true) (by rfl) ?_ ?_
    · intro w' hC; clear hC; go_simp
    simp only [Act.put, List.setIfInBounds_toArray, List.set_cons_zero, List.set_cons_succ]
    refine f_val (.bool true) (by rfl) ?_ ?_
    · intro w' hC; clear hC; go_simp
    simp only [Act.put, List.setIfInBounds_toArray, List.set_cons_zero, List.set_cons_succ]
    refine f_val (.bool true) (by rfl) ?_ ?_
    · intro w' hC; clear hC; go_simp
    simp only [Act.put, List.setIfInBounds_toArray, List.set_cons_zero, List.set_cons_succ]
    refine f_val (.slice A5 m5 c5) (by rfl) ?_ ?_
    · intro w' hC; clear hC; go_simp
    simp only [Act.put, List.setIfInBounds_toArray, List.set_cons_zero, List.set_cons_succ]
    refine f_new (putB y) 12 #[.slice A5 m5 c5] (by rfl) (by intro w' hC; clear hC; go_simp) ?_ ?_
    · intro w' hC _; exact put_any A5 m5 c5 y w' (HS5.out.grow hC) hm5
    intro A6 c6
    simp only [Act.put, List.setIfInBounds_toArray, List.set_cons_zero, List.set_cons_succ]
    refine f_known (.string ⟨(putB y).toArray⟩) (by rfl) ?_ ?_
    · intro w' hC hk; exact run_op_string rfl rfl (Known.get hk 0 rfl (by rfl))
    simp only [Act.put, List.setIfInBounds_toArray, List.set_cons_zero, List.set_cons_succ]
    refine f_val (.slice C k0 e0) (by rfl) ?_ ?_
    · intro w' hC; clear hC; go_simp
    simp only [Act.put, List.setIfInBounds_toArray, List.set_cons_zero, List.set_cons_succ]
    refine f_val (.int .i64 (k : Int)) (by rfl) ?_ ?_
    · intro w' hC; clear hC; go_simp
    simp only [Act.put, List.setIfInBounds_toArray, List.set_cons_zero, List.set_cons_succ]
    refine f_val (.slice C k e0) (by rfl) ?_ ?_
    · intro w' hC; have hlb := HLB.out; obtain ⟨l0, l1⟩ := hlb; clear hC; go_simp
    simp only [Act.put, List.setIfInBounds_toArray, List.set_cons_zero, List.set_cons_succ]
    refine f_known (.string ⟨(cs.take k).toArray⟩) (by rfl) ?_ ?_
    · intro w' hC _; exact run_op_string rfl rfl ((HC5.out.grow hC).first hk9)
    simp only [Act.put, List.setIfInBounds_toArray, List.set_cons_zero, List.set_cons_succ]
    refine f_val (.bool true) (by rfl) ?_ ?_
    · intro w' hC; have hg := HGOT.out; clear hC; go_simp
    simp only [Act.put, List.setIfInBounds_toArray, List.set_cons_zero, List.set_cons_succ]
    refine f_val (.bool true) (by rfl) ?_ ?_
    · intro w' hC; clear hC; go_simp
    simp only [Act.put, List.setIfInBounds_toArray, List.set_cons_zero, List.set_cons_succ]
    refine f_val (.bool true) (by rfl) ?_ ?_
    · intro w' hC; clear hC; go_simp
    simp only [Act.put, List.setIfInBounds_toArray, List.set_cons_zero, List.set_cons_succ]
    intro w6 hC _
    have HCw6 := Lib.hid hC
    clear hC
    go_wp2_with (fail)
    go_ret
    exact ⟨rfl, Grows.trans HG5.out HCw6.out⟩
  · obtain ⟨hy, hk⟩ := first_ill HFC.out her
    subst hy
    change 0 = m5 at hl5
    subst hl5
    have hne : ((er : Int) == 0) = false := by simp; omega
    rcases hk with hk | ⟨he, h9, hk9⟩
    · subst hk
      go_wp2_with (fail)
      go_ret
      exact ⟨rfl, HG5.out⟩
    · subst he
      rw [hlc] at hk9
      have d0 : ((k : Int) == 0) = false := by simp; omega
      have d1 : decide ((9 : Int) ≤ (k : Int)) = true := by simp; omega
      have d2 : decide ((k : Int) ≤ (k0 : Int)) = true := by simp; omega
      go_wp2_with (fail)
      go_ret
      exact ⟨rfl, HG5.out⟩
set_option maxRecDepth 100000 in
set_option maxHeartbeats 4000000 in
theorem back_long {w : World} (A : Option Addr) (n c : Nat) (bs : List UInt8) (ha : Came w A n c bs) (B : Option Addr) (m d : Nat) (ms : List UInt8) (hb : Came w B m d ms) (C : Option Addr) (k0 e0 : Nat) (cs : List UInt8) (hc : Came w C k0 e0 cs) (hsmall : ¬ 30000 < n + m + k0) (hn : 8192 < n) :
    Calls Try.prog 4 #[.slice A n c, .slice B m d, .slice C k0 e0] w fun e w' => e = .returned (.bool true) ∧ Below w.heap.size w w' := by
  have hla := ha.bytes.len
  have hlc := hc.bytes.len
  have r1 := ha.reach
  have r2 := ha.cap
  have r3 := hb.reach
  have r4 := hb.cap
  have r5 := hc.reach
  have r6 := hc.cap
  have HA := Lib.hid ha.sl
  have HB := Lib.hid hb.sl
  have HCC := Lib.hid hc.sl
  clear ha hb hc
  have hf : ¬ (1 ≤ n ∧ n ≤ 8192) := by omega
  have dbig : decide ((30000 : Int) < (n : Int) + (m : Int) + (k0 : Int)) = false := by simp; omega
  have hz : sizeN (n : Int) = 0 := by unfold sizeN; rw [if_neg (by omega)]
  have df : decide ((1 : Int) ≤ (n : Int)) = true := by simp; omega
  have df2 : decide ((n : Int) ≤ 8192) = false := by simp; omega
  have HN := Lib.hid hn
  clear hn
  go_enter Try.func4, Try.ntmps4
  go_wp2_with (fail)
  refine (head2_any _).mono ?_
  rintro e w1 ⟨rfl, hb1⟩
  have HG1 := Lib.hid (show Grows w w1 from hb1)
  clear hb1
  go_wp2_with (fail)
  refine (put_any A n c bs w1 (HA.out.grow HG1.out) (by unfold maxLen; omega)).mono ?_
  rintro e w2 ⟨A2, m2, c2, rfl, hs2, hb2⟩
  have hput : putB bs = [] := by unfold putB; rw [hla, if_neg hf]
  have hm := hs2.len
  rw [hput] at hs2 hm
  change 0 = m2 at hm
  subst hm
  have HS2 := Lib.hid hs2
  have HG2 := Lib.hid (Grows.trans HG1.out hb2)
  clear hs2 hb2 hput HG1
  go_wp2_with (fail)
  refine (size_any _ _ (by omega) (by omega)).mono ?_
  rintro e w3 ⟨rfl, rfl⟩
  go_wp2_with (fail)
  generalize hfc : firstB cs = r at *
  obtain ⟨y, k, er⟩ := r
  have HFC := Lib.hid hfc
  clear hfc
  refine (first_any C k0 e0 cs _ (HCC.out.grow HG2.out) (by omega)).mono ?_
  rw [HFC.out]
  rintro e w5 ⟨A5, m5, c5, rfl, hs5, hb5⟩
  have hl5 := hs5.len
  dsimp only at hl5
  have HS5 := Lib.hid hs5
  have HG5 := Lib.hid (Grows.trans HG2.out hb5)
  have HC5 := Lib.hid (HCC.out.grow HG5.out)
  clear hs5 hb5
  by_cases her : er = 0
  · subst her
    obtain ⟨h9, hk9, hgot⟩ := first_got HFC.out
    rw [hlc] at hk9
    have hm5 : m5 ≤ maxLen := by
      have h1 := congrArg List.length hgot
      have h2 := putB_length y
      rw [List.length_take, hlc] at h1
      unfold sizeN at h2
      unfold maxLen
      split at h2 <;> omega
    have HGOT := Lib.hid hgot
    have HLB : Hid ((0 : Int) ≤ (k : Int) ∧ (k : Int) ≤ (e0 : Int)) := ⟨by omega, by omega⟩
    have d1 : decide ((9 : Int) ≤ (k : Int)) = true := by simp; omega
    have d2 : decide ((k : Int) ≤ (k0 : Int)) = true := by simp; omega
    clear hgot
    go_wp2_with (fail)
    refine wp_region_facts (E := Grows) [valFact (.bool true), valFact (.bool true), valFact (.int .i64 (k : Int)), valFact (.bool true), valFact (.bool true), valFact (.bool true), valFact (.int .i64 (k : Int)), valFact (.slice C k0 e0), valFact (.int .i64 (k0 : Int)), valFact (.bool true), valFact (.bool true), valFact (.bool true), valFact (.slice A5 m5 c5), slFact (putB y), valFact (.string ⟨(putB y).toArray⟩), valFact (.slice C k0 e0), valFact (.int .i64 (k : Int)), valFact (.slice C k e0), valFact (.string ⟨(cs.take k).toArray⟩), valFact (.bool true), valFact (.bool true), valFact (.bool true)] (by kernel_rfl) (by kernel_rfl) (fun _ _ _ => Grows.trans) (grows_drew _) ?_
    refine f_val (.bool true) (by rfl) ?_ ?_
    · intro w' hC; clear hC; go_simp
    simp only [Act.put, List.setIfInBounds_toArray, List.set_cons_zero, List.set_cons_succ]
    refine f_val (.bool true) (by rfl) ?_ ?_
    · intro w' hC; clear hC; go_simp
    simp only [Act.put, List.setIfInBounds_toArray, List.set_cons_zero, List.set_cons_succ]
    refine f_val (.int .i64 (k : Int)) (by rfl) ?_ ?_
    · intro w' hC; clear hC; go_simp
    simp only [Act.put, List.setIfInBounds_toArray, List.set_cons_zero, List.set_cons_succ]
    refine f_val (.bool true) (by rfl) ?_ ?_
    · intro w' hC; clear hC; go_simp
    simp only [Act.put, List.setIfInBounds_toArray, List.set_cons_zero, List.set_cons_succ]
    refine f_val (.bool true) (by rfl) ?_ ?_
    · intro w' hC; clear hC; go_simp
    simp only [Act.put, List.setIfInBounds_toArray, List.set_cons_zero, List.set_cons_succ]
    refine f_val (.bool true) (by rfl) ?_ ?_
    · intro w' hC; clear hC; go_simp
    simp only [Act.put, List.setIfInBounds_toArray, List.set_cons_zero, List.set_cons_succ]
    refine f_val (.int .i64 (k : Int)) (by rfl) ?_ ?_
    · intro w' hC; clear hC; go_simp
    simp only [Act.put, List.setIfInBounds_toArray, List.set_cons_zero, List.set_cons_succ]
    refine f_val (.slice C k0 e0) (by rfl) ?_ ?_
    · intro w' hC; clear hC; go_simp
    simp only [Act.put, List.setIfInBounds_toArray, List.set_cons_zero, List.set_cons_succ]
    refine f_val (.int .i64 (k0 : Int)) (by rfl) ?_ ?_
    · intro w' hC; clear hC; go_simp
    simp only [Act.put, List.setIfInBounds_toArray, List.set_cons_zero, List.set_cons_succ]
    refine f_val (.bool true) (by rfl) ?_ ?_
    · intro w' hC; clear hC; go_simp
    simp only [Act.put, List.setIfInBounds_toArray, List.set_cons_zero, List.set_cons_succ]
    refine f_val (.bool true) (by rfl) ?_ ?_
    · intro w' hC; clear hC; go_simp
    simp only [Act.put, List.setIfInBounds_toArray, List.set_cons_zero, List.set_cons_succ]
    refine f_val (.bool true) (by rfl) ?_ ?_
    · intro w' hC; clear hC; go_simp
    simp only [Act.put, List.setIfInBounds_toArray, List.set_cons_zero, List.set_cons_succ]
    refine f_val (.slice A5 m5 c5) (by rfl) ?_ ?_
    · intro w' hC; clear hC; go_simp
    simp only [Act.put, List.setIfInBounds_toArray, List.set_cons_zero, List.set_cons_succ]
    refine f_new (putB y) 12 #[.slice A5 m5 c5] (by rfl) (by intro w' hC; clear hC; go_simp) ?_ ?_
    · intro w' hC _; exact put_any A5 m5 c5 y w' (HS5.out.grow hC) hm5
    intro A6 c6
    simp only [Act.put, List.setIfInBounds_toArray, List.set_cons_zero, List.set_cons_succ]
    refine f_known (.string ⟨(putB y).toArray⟩) (by rfl) ?_ ?_
    · intro w' hC hk; exact run_op_string rfl rfl (Known.get hk 0 rfl (by rfl))
    simp only [Act.put, List.setIfInBounds_toArray, List.set_cons_zero, List.set_cons_succ]
    refine f_val (.slice C k0 e0) (by rfl) ?_ ?_
    · intro w' hC; clear hC; go_simp
    simp only [Act.put, List.setIfInBounds_toArray, List.set_cons_zero, List.set_cons_succ]
    refine f_val (.int .i64 (k : Int)) (by rfl) ?_ ?_
    · intro w' hC; clear hC; go_simp
    simp only [Act.put, List.setIfInBounds_toArray, List.set_cons_zero, List.set_cons_succ]
    refine f_val (.slice C k e0) (by rfl) ?_ ?_
    · intro w' hC; have hlb := HLB.out; obtain ⟨l0, l1⟩ := hlb; clear hC; go_simp
    simp only [Act.put, List.setIfInBounds_toArray, List.set_cons_zero, List.set_cons_succ]
    refine f_known (.string ⟨(cs.take k).toArray⟩) (by rfl) ?_ ?_
    · intro w' hC _; exact run_op_string rfl rfl ((HC5.out.grow hC).first hk9)
    simp only [Act.put, List.setIfInBounds_toArray, List.set_cons_zero, List.set_cons_succ]
    refine f_val (.bool true) (by rfl) ?_ ?_
    · intro w' hC; have hg := HGOT.out; clear hC; go_simp
    simp only [Act.put, List.setIfInBounds_toArray, List.set_cons_zero, List.set_cons_succ]
    refine f_val (.bool true) (by rfl) ?_ ?_
    · intro w' hC; clear hC; go_simp
    simp only [Act.put, List.setIfInBounds_toArray, List.set_cons_zero, List.set_cons_succ]
    refine f_val (.bool true) (by rfl) ?_ ?_
    · intro w' hC; clear hC; go_simp
    simp only [Act.put, List.setIfInBounds_toArray, List.set_cons_zero, List.set_cons_succ]
    intro w6 hC _
    have HCw6 := Lib.hid hC
    clear hC
    go_wp2_with (fail)
    go_ret
    exact ⟨rfl, Grows.trans HG5.out HCw6.out⟩
  · obtain ⟨hy, hk⟩ := first_ill HFC.out her
    subst hy
    change 0 = m5 at hl5
    subst hl5
    have hne : ((er : Int) == 0) = false := by simp; omega
    rcases hk with hk | ⟨he, h9, hk9⟩
    · subst hk
      go_wp2_with (fail)
      go_ret
      exact ⟨rfl, HG5.out⟩
    · subst he
      rw [hlc] at hk9
      have d0 : ((k : Int) == 0) = false := by simp; omega
      have d1 : decide ((9 : Int) ≤ (k : Int)) = true := by simp; omega
      have d2 : decide ((k : Int) ≤ (k0 : Int)) = true := by simp; omega
      go_wp2_with (fail)
      go_ret
      exact ⟨rfl, HG5.out⟩

set_option maxRecDepth 100000 in
set_option maxHeartbeats 4000000 in
theorem back_fine {w : World} (A : Option Addr) (n c : Nat) (bs : List UInt8) (ha : Came w A n c bs) (B : Option Addr) (m d : Nat) (ms : List UInt8) (hb : Came w B m d ms) (C : Option Addr) (k0 e0 : Nat) (cs : List UInt8) (hc : Came w C k0 e0 cs) (hsmall : ¬ 30000 < n + m + k0) (hf : 1 ≤ n ∧ n ≤ 8192) :
    Calls Try.prog 4 #[.slice A n c, .slice B m d, .slice C k0 e0] w fun e w' => e = .returned (.bool true) ∧ Below w.heap.size w w' := by
  have hla := ha.bytes.len
  have hlc := hc.bytes.len
  have r1 := ha.reach
  have r2 := ha.cap
  have r3 := hb.reach
  have r4 := hb.cap
  have r5 := hc.reach
  have r6 := hc.cap
  have HA := Lib.hid ha.sl
  have HB := Lib.hid hb.sl
  have HCC := Lib.hid hc.sl
  clear ha hb hc
  have dbig : decide ((30000 : Int) < (n : Int) + (m : Int) + (k0 : Int)) = false := by simp; omega
  have hz : sizeN (n : Int) = (n : Int) + 8 := by unfold sizeN; rw [if_pos (by omega)]
  have df1 : decide ((1 : Int) ≤ (n : Int)) = true := by simp; omega
  have df2 : decide ((n : Int) ≤ 8192) = true := by simp; omega
  have dp : decide ((0 : Int) < (n : Int) + 8) = true := by simp; omega
  have hback := first_back bs ms (by omega) (by omega)
  rw [hla] at hback
  have HBK := Lib.hid hback
  clear hback
  go_enter Try.func4, Try.ntmps4
  go_wp2_with (fail)
  refine (head2_any _).mono ?_
  rintro e w1 ⟨rfl, hb1⟩
  have HG1 := Lib.hid (show Grows w w1 from hb1)
  clear hb1
  go_wp2_with (fail)
  refine (put_any A n c bs w1 (HA.out.grow HG1.out) (by unfold maxLen; omega)).mono ?_
  rintro e w2 ⟨A2, m2, c2, rfl, hs2, hb2⟩
  have hput : putB bs = frameB bs := by unfold putB; rw [hla, if_pos hf]
  have hm := hs2.len
  rw [hput] at hs2 hm
  rw [frameB_length, hla] at hm
  subst hm
  have HS2 := Lib.hid hs2
  have HG2 := Lib.hid (Grows.trans HG1.out hb2)
  clear hs2 hb2 hput HG1
  go_wp2_with (fail)
  refine (size_any _ _ (by omega) (by omega)).mono ?_
  rintro e w3 ⟨rfl, rfl⟩
  go_wp2_with (first
    | (at_builtin
       refine list_append_sl rfl (.tmp 52) (.tmp 53) rfl rfl (owned_none w2) (A := A2) (m := n + 8) (c := c2) rfl (HS2.out.alloc _) (n + 8) (by omega) (frameB bs) rfl (by omega) (le_alloc _ _) ?_
       intro A3 c3 w3 hown3 hb3
       have HOWN3 := Lib.hid hown3
       have HB3 := Lib.hid (Below.trans ((Below.refl _ w2).alloc (Nat.le_refl _) _) hb3)
       have HM3 := Lib.hid (HB.out.grow (Grows.trans HG2.out (Below.trans ((Below.refl _ w2).alloc (Nat.le_refl _) _) hb3)))
       clear hown3 hb3)
    | (at_builtin
       refine list_append_sl rfl (.tmp 54) (.tmp 55) rfl rfl HOWN3.out (A := B) (m := m) (c := d) rfl HM3.out (n + 8 + m) rfl (frameB bs ++ ms) rfl (by omega) HB3.out.size ?_
       intro A4 c4 w4 hown4 hb4
       have HOWN4 := Lib.hid hown4
       have HB4 := Lib.hid (HB3.out.trans hb4)
       clear hown4 hb4))
  have HG4 := Lib.hid (Grows.trans HG2.out HB4.out)
  have HS4 := Lib.hid (HS2.out.grow HB4.out)
  refine (first_any A4 (n + 8 + m) c4 _ w4 (Sl.owned HOWN4.out) (by omega)).mono ?_
  rw [HBK.out]
  rintro e w9 ⟨A9, m9, c9, rfl, hs9, hb9⟩
  have hm9 := hs9.len
  change bs.length = m9 at hm9
  rw [hla] at hm9
  subst hm9
  have t1 := run_string hs9
  have HG9 := Lib.hid (Grows.trans HG4.out hb9)
  have t2 := run_string (HA.out.grow HG9.out)
  clear hs9 hb9 HG4 HS4 HB4 HB3 HOWN4 HOWN3 HM3 HS2 HG2
  go_wp2_with (fail)
  clear t1 t2
  generalize hfc : firstB cs = r at *
  obtain ⟨y, k, er⟩ := r
  have HFC := Lib.hid hfc
  clear hfc
  refine (first_any C k0 e0 cs _ (HCC.out.grow HG9.out) (by omega)).mono ?_
  rw [HFC.out]
  rintro e w5 ⟨A5, m5, c5, rfl, hs5, hb5⟩
  have hl5 := hs5.len
  dsimp only at hl5
  have HS5 := Lib.hid hs5
  have HG5 := Lib.hid (Grows.trans HG9.out hb5)
  have HC5 := Lib.hid (HCC.out.grow HG5.out)
  clear hs5 hb5
  by_cases her : er = 0
  · subst her
    obtain ⟨h9, hk9, hgot⟩ := first_got HFC.out
    rw [hlc] at hk9
    have hm5 : m5 ≤ maxLen := by
      have h1 := congrArg List.length hgot
      have h2 := putB_length y
      rw [List.length_take, hlc] at h1
      unfold sizeN at h2
      unfold maxLen
      split at h2 <;> omega
    have HGOT := Lib.hid hgot
    have HLB : Hid ((0 : Int) ≤ (k : Int) ∧ (k : Int) ≤ (e0 : Int)) := ⟨by omega, by omega⟩
    have d1 : decide ((9 : Int) ≤ (k : Int)) = true := by simp; omega
    have d2 : decide ((k : Int) ≤ (k0 : Int)) = true := by simp; omega
    clear hgot
    go_wp2_with (fail)
    refine wp_region_facts (E := Grows) [valFact (.bool true), valFact (.bool true), valFact (.int .i64 (k : Int)), valFact (.bool true), valFact (.bool true), valFact (.bool true), valFact (.int .i64 (k : Int)), valFact (.slice C k0 e0), valFact (.int .i64 (k0 : Int)), valFact (.bool true), valFact (.bool true), valFact (.bool true), valFact (.slice A5 m5 c5), slFact (putB y), valFact (.string ⟨(putB y).toArray⟩), valFact (.slice C k0 e0), valFact (.int .i64 (k : Int)), valFact (.slice C k e0), valFact (.string ⟨(cs.take k).toArray⟩), valFact (.bool true), valFact (.bool true), valFact (.bool true)] (by kernel_rfl) (by kernel_rfl) (fun _ _ _ => Grows.trans) (grows_drew _) ?_
    refine f_val (.bool true) (by rfl) ?_ ?_
    · intro w' hC; clear hC; go_simp
    simp only [Act.put, List.setIfInBounds_toArray, List.set_cons_zero, List.set_cons_succ]
    refine f_val (.bool true) (by rfl) ?_ ?_
    · intro w' hC; clear hC; go_simp
    simp only [Act.put, List.setIfInBounds_toArray, List.set_cons_zero, List.set_cons_succ]
    refine f_val (.int .i64 (k : Int)) (by rfl) ?_ ?_
    · intro w' hC; clear hC; go_simp
    simp only [Act.put, List.setIfInBounds_toArray, List.set_cons_zero, List.set_cons_succ]
    refine f_val (.bool true) (by rfl) ?_ ?_
    · intro w' hC; clear hC; go_simp
    simp only [Act.put, List.setIfInBounds_toArray, List.set_cons_zero, List.set_cons_succ]
    refine f_val (.bool true) (by rfl) ?_ ?_
    · intro w' hC; clear hC; go_simp
    simp only [Act.put, List.setIfInBounds_toArray, List.set_cons_zero, List.set_cons_succ]
    refine f_val (.bool true) (by rfl) ?_ ?_
    · intro w' hC; clear hC; go_simp
    simp only [Act.put, List.setIfInBounds_toArray, List.set_cons_zero, List.set_cons_succ]
    refine f_val (.int .i64 (k : Int)) (by rfl) ?_ ?_
    · intro w' hC; clear hC; go_simp
    simp only [Act.put, List.setIfInBounds_toArray, List.set_cons_zero, List.set_cons_succ]
    refine f_val (.slice C k0 e0) (by rfl) ?_ ?_
    · intro w' hC; clear hC; go_simp
    simp only [Act.put, List.setIfInBounds_toArray, List.set_cons_zero, List.set_cons_succ]
    refine f_val (.int .i64 (k0 : Int)) (by rfl) ?_ ?_
    · intro w' hC; clear hC; go_simp
    simp only [Act.put, List.setIfInBounds_toArray, List.set_cons_zero, List.set_cons_succ]
    refine f_val (.bool true) (by rfl) ?_ ?_
    · intro w' hC; clear hC; go_simp
    simp only [Act.put, List.setIfInBounds_toArray, List.set_cons_zero, List.set_cons_succ]
    refine f_val (.bool true) (by rfl) ?_ ?_
    · intro w' hC; clear hC; go_simp
    simp only [Act.put, List.setIfInBounds_toArray, List.set_cons_zero, List.set_cons_succ]
    refine f_val (.bool true) (by rfl) ?_ ?_
    · intro w' hC; clear hC; go_simp
    simp only [Act.put, List.setIfInBounds_toArray, List.set_cons_zero, List.set_cons_succ]
    refine f_val (.slice A5 m5 c5) (by rfl) ?_ ?_
    · intro w' hC; clear hC; go_simp
    simp only [Act.put, List.setIfInBounds_toArray, List.set_cons_zero, List.set_cons_succ]
    refine f_new (putB y) 12 #[.slice A5 m5 c5] (by rfl) (by intro w' hC; clear hC; go_simp) ?_ ?_
    · intro w' hC _; exact put_any A5 m5 c5 y w' (HS5.out.grow hC) hm5
    intro A6 c6
    simp only [Act.put, List.setIfInBounds_toArray, List.set_cons_zero, List.set_cons_succ]
    refine f_known (.string ⟨(putB y).toArray⟩) (by rfl) ?_ ?_
    · intro w' hC hk; exact run_op_string rfl rfl (Known.get hk 0 rfl (by rfl))
    simp only [Act.put, List.setIfInBounds_toArray, List.set_cons_zero, List.set_cons_succ]
    refine f_val (.slice C k0 e0) (by rfl) ?_ ?_
    · intro w' hC; clear hC; go_simp
    simp only [Act.put, List.setIfInBounds_toArray, List.set_cons_zero, List.set_cons_succ]
    refine f_val (.int .i64 (k : Int)) (by rfl) ?_ ?_
    · intro w' hC; clear hC; go_simp
    simp only [Act.put, List.setIfInBounds_toArray, List.set_cons_zero, List.set_cons_succ]
    refine f_val (.slice C k e0) (by rfl) ?_ ?_
    · intro w' hC; have hlb := HLB.out; obtain ⟨l0, l1⟩ := hlb; clear hC; go_simp
    simp only [Act.put, List.setIfInBounds_toArray, List.set_cons_zero, List.set_cons_succ]
    refine f_known (.string ⟨(cs.take k).toArray⟩) (by rfl) ?_ ?_
    · intro w' hC _; exact run_op_string rfl rfl ((HC5.out.grow hC).first hk9)
    simp only [Act.put, List.setIfInBounds_toArray, List.set_cons_zero, List.set_cons_succ]
    refine f_val (.bool true) (by rfl) ?_ ?_
    · intro w' hC; have hg := HGOT.out; clear hC; go_simp
    simp only [Act.put, List.setIfInBounds_toArray, List.set_cons_zero, List.set_cons_succ]
    refine f_val (.bool true) (by rfl) ?_ ?_
    · intro w' hC; clear hC; go_simp
    simp only [Act.put, List.setIfInBounds_toArray, List.set_cons_zero, List.set_cons_succ]
    refine f_val (.bool true) (by rfl) ?_ ?_
    · intro w' hC; clear hC; go_simp
    simp only [Act.put, List.setIfInBounds_toArray, List.set_cons_zero, List.set_cons_succ]
    intro w6 hC _
    have HCw6 := Lib.hid hC
    clear hC
    go_wp2_with (fail)
    go_ret
    exact ⟨rfl, Grows.trans HG5.out HCw6.out⟩
  · obtain ⟨hy, hk⟩ := first_ill HFC.out her
    subst hy
    change 0 = m5 at hl5
    subst hl5
    have hne : ((er : Int) == 0) = false := by simp; omega
    rcases hk with hk | ⟨he, h9, hk9⟩
    · subst hk
      go_wp2_with (fail)
      go_ret
      exact ⟨rfl, HG5.out⟩
    · subst he
      rw [hlc] at hk9
      have d0 : ((k : Int) == 0) = false := by simp; omega
      have d1 : decide ((9 : Int) ≤ (k : Int)) = true := by simp; omega
      have d2 : decide ((k : Int) ≤ (k0 : Int)) = true := by simp; omega
      go_wp2_with (fail)
      go_ret
      exact ⟨rfl, HG5.out⟩

theorem back_law {w : World} (A : Option Addr) (n c : Nat) (bs : List UInt8) (ha : Came w A n c bs) (B : Option Addr) (m d : Nat) (ms : List UInt8) (hb : Came w B m d ms) (C : Option Addr) (k0 e0 : Nat) (cs : List UInt8) (hc : Came w C k0 e0 cs) :
    Calls Try.prog 4 #[.slice A n c, .slice B m d, .slice C k0 e0] w fun e w' => e = .returned (.bool true) ∧ Below w.heap.size w w' := by
  by_cases hbig : 30000 < n + m + k0
  · exact back_big A n c bs ha B m d ms hb C k0 e0 cs hc hbig
  · by_cases hf : 1 ≤ n ∧ n ≤ 8192
    · exact back_fine A n c bs ha B m d ms hb C k0 e0 cs hc hbig hf
    · by_cases h0 : n = 0
      · exact back_none A n c bs ha B m d ms hb C k0 e0 cs hc hbig h0
      · exact back_long A n c bs ha B m d ms hb C k0 e0 cs hc hbig (by omega)

set_option maxRecDepth 100000 in
theorem frameBack_lifted (os : Os) (started : os.Started) (H : Type) (enc : TypeId × Value → H) :
    ReturnsInHanded {} Try.checked os 4 .any (Rows.frameBackSpec.pre6 enc Try.prog Try.f4 Rows.frameBackRow.domain false) (Rows.frameBackSpec.post enc Try.prog Try.f4 false true false false) := by
  refine lift_law (C := Try.checked) H enc own started (by kernel_rfl) Try.func4
    (ChangeSpec.witness6 (enc := enc) (C := Try.checked) false ⟨#[], #[.slice none 0 0, .slice none 0 0, .slice none 0 0], []⟩ 16 (by kernel_rfl) (by kernel_rfl) (by kernel_rfl) (by kernel_rfl))
    laidOut (of_readable (by kernel_rfl)) rfl Try.underlying4 rfl (fun ds hd => ?_) (fun W base args ds p hval hA hsz => ?_)
  · match ds, hd with
    | [d1, d2, d3], _ => rfl
  · rw [Try.params4] at hA hval hsz
    obtain ⟨v0, vs0, d0, ds0, p0, q0, hargs, rfl, rfl, h0, r0⟩ := trodAll_cons hA
    obtain ⟨v1, vs1, d1, ds1, p1, q1, rfl, rfl, rfl, h1, r1⟩ := trodAll_cons r0
    obtain ⟨v2, vs2, d2, ds2, p2, q2, rfl, rfl, rfl, h2, r2⟩ := trodAll_cons r1
    obtain ⟨rfl, rfl, rfl⟩ := trodAll_nil r2
    obtain rfl : args = #[v0, v1, v2] := by cases args; simp_all
    obtain ⟨A0, n0, c0, xs0, rfl, hx0⟩ := open_bytes Try.underlying22 Try.underlying5 (by kernel_rfl) (by kernel_rfl) (hval 0 22 v0 rfl rfl) h0 hsz (j := 0) rfl rfl
    obtain ⟨A1, n1, c1, xs1, rfl, hx1⟩ := open_bytes Try.underlying22 Try.underlying5 (by kernel_rfl) (by kernel_rfl) (hval 1 22 v1 rfl rfl) h1 hsz (j := 1) rfl rfl
    obtain ⟨A2, n2, c2, xs2, rfl, hx2⟩ := open_bytes Try.underlying22 Try.underlying5 (by kernel_rfl) (by kernel_rfl) (hval 2 22 v2 rfl rfl) h2 hsz (j := 2) rfl rfl
    exact back_law A0 n0 c0 xs0 hx0 A1 n1 c1 xs1 hx1 A2 n2 c2 xs2 hx2

theorem frameBack_over : Rows.frameBackRow.holds Try.pinned (OpenSpec.ofChange Rows.frameBackSpec) :=
  OpenClaim.holds_of_wide 4 Try.f4 rfl rfl rfl rfl rfl rfl rfl ⟨rfl, rfl, rfl, rfl, rfl⟩ rfl rfl rfl rfl rfl (by kernel_rfl) Try.func4 (by kernel_rfl)
    (of_decide_eq_true (by kernel_rfl)) (by unfold Func.isWrapper; first | (rw [if_pos (by decide +kernel)]; kernel_rfl) | (rw [if_neg (by decide +kernel)]; exact ⟨rfl, rfl⟩))
    (fun os started H enc _ => frameBack_lifted os started H enc)
theorem frameBack_holds : Rows.FrameBackSaid := frameBack_over

end Go.Proofs.Ytfefghnincjlgaa
