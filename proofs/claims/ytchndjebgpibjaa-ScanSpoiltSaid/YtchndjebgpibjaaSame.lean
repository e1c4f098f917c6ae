/-
  The walk of souterrainref03.Same: are two slices of items alike?
-/
import Derived.Test.YtchndjebgpibjaaItems
import Derived.Test.YtchndjebgpibjaaSteps
import Derived.LoopTactic
import Derived.Lib.Hide
import Derived.IntWalk
namespace Go.Proofs.Ytchndjebgpibjaa
open Go.RowKit
attribute [local irreducible] Go.wpQuiet

theorem take_next (ts : List It) (k : Nat) (h : k < ts.length) : ts.take (k + 1) = ts.take k ++ [ts.getD k (0, 0, [])] := by
  rw [List.take_succ_eq_append_getElem h]
  simp [h]

theorem same_not (A : Option Addr) (n c : Nat) (ts : List It) (B : Option Addr) (m d : Nat) (us : List It) (w : World) (ha : Items w A n c ts) (hb : Items w B m d us) (h : n ≠ m) :
    Calls Try.prog 14 #[.slice A n c, .slice B m d] w fun e w' => e = .returned (.bool (decide (ts = us))) ∧ Below w.heap.size w w' := by
  have hne : ts ≠ us := fun e => h (by rw [← ha.len, ← hb.len, e])
  have hd : ((n : Int) == (m : Int)) = false := by simp; omega
  have hd2 : ((n : Int) != (m : Int)) = true := by simp [bne]; omega
  go_enter Try.func14, Try.ntmps14
  go_wp2_with (fail)
  go_ret
  exact ⟨by rw [decide_eq_false hne]; rfl, Below.refl _ _⟩

set_option maxRecDepth 100000 in
set_option maxHeartbeats 8000000 in
theorem same_like (A : Option Addr) (n c : Nat) (ts : List It) (B : Option Addr) (d : Nat) (us : List It) (w : World) (ha : Items w A n c ts) (hb : Items w B n d us) (hn : n ≤ 140737488351232) :
    Calls Try.prog 14 #[.slice A n c, .slice B n d] w fun e w' => e = .returned (.bool (decide (ts = us))) ∧ Below w.heap.size w w' := by
  have HA := Lib.hid ha
  have HB := Lib.hid hb
  clear ha hb
  go_enter Try.func14, Try.ntmps14
  go_wp2_with (fail)
  go_loopw [5] (fun i wr => ∃ k : Nat, k ≤ n ∧ i = .int .i64 k ∧ ts.take k = us.take k ∧ Grows w wr) (fun i _ => n - (intOf i).toNat)
  case atStart => exact ⟨0, by omega, rfl, by simp, Grows.refl _⟩
  case round =>
    obtain ⟨k, hk, rfl, heq, hg⟩ := hrel
    have HEQ := Lib.hid heq
    have HG := Lib.hid hg
    clear heq hg
    by_cases hlt : k < n
    · obtain ⟨ad, B1, m1, d1, rfl, p0, p1, p2, p3⟩ := (HA.out.grow HG.out).spot hlt
      obtain ⟨bd, B2, m2, d2, rfl, q0, q1, q2, q3⟩ := (HB.out.grow HG.out).spot hlt
      have s1 := fun w' (hw : Grows wr w') => run_string (p3.grow hw)
      have s2 := fun w' (hw : Grows wr w') => run_string (q3.grow hw)
      have k0 : (0 : Int) ≤ (k : Int) := by omega
      have k1 : (k : Int) < (n : Int) := by omega
      have hts : ts.take (k + 1) = ts.take k ++ [ts.getD k (0, 0, [])] := take_next ts k (by have := HA.out.len; omega)
      have hus : us.take (k + 1) = us.take k ++ [us.getD k (0, 0, [])] := take_next us k (by have := HB.out.len; omega)
      have hne : ts.getD k (0, 0, []) ≠ us.getD k (0, 0, []) → ts ≠ us := fun h e => h (by rw [e])
      have HTS := Lib.hid hts
      have HUS := Lib.hid hus
      have HNE := Lib.hid hne
      clear p3 q3 hts hus hne
      generalize ts.getD k (0, 0, []) = t at *
      generalize us.getD k (0, 0, []) = u at *
      obtain ⟨a1, z1, y1⟩ := t
      obtain ⟨a2, z2, y2⟩ := u
      dsimp only at p0 p1 p2 q0 q1 q2 s1 s2
      by_cases e1 : a1 = a2
      · subst e1
        by_cases e2 : z1 = z2
        · subst e2
          by_cases e3 : y1 = y2
          · subst e3
            go_wp2_with (fail)
            refine q_region (by kernel_rfl) (by kernel_rfl) ?_
            iterate 39 (refine q_op' (v := ?_) (a' := ?_) (by rfl) ?_ ?_ ?_
                        rotate_left 2
                        · intro w' hC
                          go_simp
                          try with_reducible rfl
                        · simp only [Act.put, List.setIfInBounds_toArray, List.set_cons_zero, List.set_cons_succ]
                          try rfl)
            refine wpQuiet_nil ?_
            intro w5 hC
            have HG5 := Lib.hid (Grows.trans HG.out hC)
            clear hC
            go_wp2_with (fail)
            go_roundw
            case rel => exact ⟨k + 1, by omega, by go_num, by rw [HTS.out, HUS.out, HEQ.out], HG5.out⟩
            case measure => simp [intOf]; omega
          · have f3 : (y1 == y2) = false := by simpa using e3
            go_wp2_with (fail)
            refine q_region (by kernel_rfl) (by kernel_rfl) ?_
            iterate 37 (refine q_op' (v := ?_) (a' := ?_) (by rfl) ?_ ?_ ?_
                        rotate_left 2
                        · intro w' hC
                          go_simp
                          try with_reducible rfl
                        · simp only [Act.put, List.setIfInBounds_toArray, List.set_cons_zero, List.set_cons_succ]
                          try rfl)
            iterate 1 (refine q_op' (v := .bool true) (a' := ?_) (by rfl) ?_ ?_ ?_
                       rotate_left 1
                       · intro w' hC
                         clear hC
                         go_simp
                       · simp only [Act.put, List.setIfInBounds_toArray, List.set_cons_zero, List.set_cons_succ]
                         try rfl)
            iterate 1 (refine q_op' (v := ?_) (a' := ?_) (by rfl) ?_ ?_ ?_
                       rotate_left 2
                       · intro w' hC
                         go_simp
                         try with_reducible rfl
                       · simp only [Act.put, List.setIfInBounds_toArray, List.set_cons_zero, List.set_cons_succ]
                         try rfl)
            refine wpQuiet_nil ?_
            intro w5 hC
            have HG5 := Lib.hid (Grows.trans HG.out hC)
            clear hC
            go_wp2_with (fail)
            go_ret
            exact ⟨by rw [decide_eq_false (HNE.out (by simp [e3]))]; rfl, HG5.out⟩
        · have F2 := Lib.hid e2
          clear e2
          go_wp2_with (fail)
          refine q_region (by kernel_rfl) (by kernel_rfl) ?_
          iterate 22 (refine q_op' (v := ?_) (a' := ?_) (by rfl) ?_ ?_ ?_
                      rotate_left 2
                      · intro w' hC
                        go_simp
                        try with_reducible rfl
                      · simp only [Act.put, List.setIfInBounds_toArray, List.set_cons_zero, List.set_cons_succ]
                        try rfl)
          refine q_op' (v := .bool true) (a' := ?_) (by rfl) ?_ ?_ ?_
          rotate_left 1
          · intro w' hC
            clear hC
            go_simp
            have h := F2.out
            first | exact h | (simp; omega) | (intro h'; exact h (by omega))
          · simp only [Act.put, List.setIfInBounds_toArray, List.set_cons_zero, List.set_cons_succ]
            try rfl
          iterate 2 (refine q_op' (v := ?_) (a' := ?_) (by rfl) ?_ ?_ ?_
                     rotate_left 2
                     · intro w' hC
                       go_simp
                       try with_reducible rfl
                     · simp only [Act.put, List.setIfInBounds_toArray, List.set_cons_zero, List.set_cons_succ]
                       try rfl)
          iterate 13 (refine q_skip' (a' := ?_) (by rfl) ?_ ?_
                      rotate_left 1
                      · simp only [Act.put, List.setIfInBounds_toArray, List.set_cons_zero, List.set_cons_succ]
                        try rfl)
          iterate 1 (refine q_op' (v := ?_) (a' := ?_) (by rfl) ?_ ?_ ?_
                     rotate_left 2
                     · intro w' hC
                       go_simp
                       try with_reducible rfl
                     · simp only [Act.put, List.setIfInBounds_toArray, List.set_cons_zero, List.set_cons_succ]
                       try rfl)
          refine wpQuiet_nil ?_
          intro w5 hC
          have HG5 := Lib.hid (Grows.trans HG.out hC)
          clear hC
          go_wp2_with (fail)
          go_ret
          exact ⟨by rw [decide_eq_false (HNE.out (by simp [F2.out]))]; rfl, HG5.out⟩
      · have F1 := Lib.hid e1
        clear e1
        go_wp2_with (fail)
        refine q_region (by kernel_rfl) (by kernel_rfl) ?_
        iterate 10 (refine q_op' (v := ?_) (a' := ?_) (by rfl) ?_ ?_ ?_
                    rotate_left 2
                    · intro w' hC
                      go_simp
                      try with_reducible rfl
                    · simp only [Act.put, List.setIfInBounds_toArray, List.set_cons_zero, List.set_cons_succ]
                      try rfl)
        refine q_op' (v := .bool true) (a' := ?_) (by rfl) ?_ ?_ ?_
        rotate_left 1
        · intro w' hC
          clear hC
          go_simp
          have h := F1.out
          first | exact h | (simp; omega) | (intro h'; exact h (by omega))
        · simp only [Act.put, List.setIfInBounds_toArray, List.set_cons_zero, List.set_cons_succ]
          try rfl
        iterate 1 (refine q_op' (v := ?_) (a' := ?_) (by rfl) ?_ ?_ ?_
                   rotate_left 2
                   · intro w' hC
                     go_simp
                     try with_reducible rfl
                   · simp only [Act.put, List.setIfInBounds_toArray, List.set_cons_zero, List.set_cons_succ]
                     try rfl)
        iterate 11 (refine q_skip' (a' := ?_) (by rfl) ?_ ?_
                    rotate_left 1
                    · simp only [Act.put, List.setIfInBounds_toArray, List.set_cons_zero, List.set_cons_succ]
                      try rfl)
        iterate 2 (refine q_op' (v := ?_) (a' := ?_) (by rfl) ?_ ?_ ?_
                   rotate_left 2
                   · intro w' hC
                     go_simp
                     try with_reducible rfl
                   · simp only [Act.put, List.setIfInBounds_toArray, List.set_cons_zero, List.set_cons_succ]
                     try rfl)
        iterate 13 (refine q_skip' (a' := ?_) (by rfl) ?_ ?_
                    rotate_left 1
                    · simp only [Act.put, List.setIfInBounds_toArray, List.set_cons_zero, List.set_cons_succ]
                      try rfl)
        iterate 1 (refine q_op' (v := ?_) (a' := ?_) (by rfl) ?_ ?_ ?_
                   rotate_left 2
                   · intro w' hC
                     go_simp
                     try with_reducible rfl
                   · simp only [Act.put, List.setIfInBounds_toArray, List.set_cons_zero, List.set_cons_succ]
                     try rfl)
        refine wpQuiet_nil ?_
        intro w5 hC
        have HG5 := Lib.hid (Grows.trans HG.out hC)
        clear hC
        go_wp2_with (fail)
        go_ret
        exact ⟨by rw [decide_eq_false (HNE.out (by simp [F1.out]))]; rfl, HG5.out⟩
    · obtain rfl : k = n := by omega
      have hall : ts = us := by
        have h := HEQ.out
        rwa [List.take_of_length_le (by rw [HA.out.len]; omega), List.take_of_length_le (by rw [HB.out.len]; omega)] at h
      have HALL := Lib.hid hall
      clear hall
      go_wp2_with (fail)
      go_ret
      exact ⟨by rw [decide_eq_true HALL.out]; rfl, HG.out⟩

theorem same_any (A : Option Addr) (n c : Nat) (ts : List It) (B : Option Addr) (m d : Nat) (us : List It) (w : World) (ha : Items w A n c ts) (hb : Items w B m d us) (hn : n ≤ 140737488351232) (hm : m ≤ 140737488351232) :
    Calls Try.prog 14 #[.slice A n c, .slice B m d] w fun e w' => e = .returned (.bool (decide (ts = us))) ∧ Below w.heap.size w w' := by
  by_cases h : n = m
  · subst h
    exact same_like A n c ts B d us w ha hb hn
  · exact same_not A n c ts B m d us w ha hb h
end Go.Proofs.Ytchndjebgpibjaa
