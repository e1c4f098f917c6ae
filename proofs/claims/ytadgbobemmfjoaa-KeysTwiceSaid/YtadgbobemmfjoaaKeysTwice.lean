/-
  Statement KeysTwice: a key that is put twice is there once; deleted, it is not; deleted again, nothing is. Every key and every number of times, no condition.
-/
import Derived.Test.YtadgbobemmfjoaaKsHead
import Derived.Test.YtadgbobemmfjoaaRows
import Derived.Test.YtadgbobemmfjoaaChecked
import Derived.Test.YtadgbobemmfjoaaFrame
import Derived.Test.YtadgbobemmfjoaaSeat
import Derived.Test.YtadgbobemmfjoaaText
import Derived.ProofKit
import Derived.ChangeOld
namespace Go.Proofs.Ytadgbobemmfjoaa
open Go.ChangeShapes Go.WideShapes Go.ChangeAt Go.RowKit
set_option linter.unusedSimpArgs false
set_option linter.unusedVariables false
attribute [local irreducible] wpF

theorem twice_get (key : List UInt8) (i j : Int) : getL (plc key i).key [plc key j] = some (plc key j) := by
  show List.find? (fun p : Pl => p.key == key) [plc key j] = _
  rw [List.find?_cons_of_pos]
  show (key == key) = true
  simp
theorem twice_put (key : List UInt8) (i j : Int) : kputL (plc key i) [plc key j] = [plc key i] := by
  have h : delL (plc key i).key [plc key j] = [] := by
    show List.filter (fun p : Pl => !(p.key == key)) [plc key j] = []
    rw [List.filter_cons_of_neg]
    · rfl
    · show ¬ (!(key == key)) = true
      simp
  show insL (plc key i) (delL (plc key i).key [plc key j]) = _
  rw [h]
  rfl
theorem twice_del (key : List UInt8) (j : Int) : delL key [plc key j] = [] := by
  show List.filter (fun p : Pl => !(p.key == key)) [plc key j] = []
  rw [List.filter_cons_of_neg]
  · rfl
  · show ¬ (!(key == key)) = true
    simp
theorem list_none {B d : Nat} {w0 w : World} {out : Nat → Prop} (h : KsIn B w0 w d out []) : Calls Try.prog 24 #[.pointer (some ⟨d, 0, none⟩)] w fun e w' => e = .returned (.slice none 0 0) ∧ Grows w w' := by
  have HM := Lib.hid (many_at h (by show 0 < _; omega) (n := 0) rfl)
  go_enter Try.func24, Try.ntmps24
  go_wp2_with (fail)
  refine HM.out.mono ?_
  rintro e w1 ⟨rfl, rfl⟩
  go_wp2_with (fail)
  refine (from_none [] 0 (by omega) w d).mono ?_
  rintro e w2 ⟨rfl, hg⟩
  have H2 := Lib.hid hg
  clear hg
  go_wp2_with (fail)
  go_ret
  exact ⟨rfl, H2.out⟩
set_option maxRecDepth 100000 in
set_option maxHeartbeats 8000000 in
theorem keysTwice_law (w : World) (key : List UInt8) (hkey : key.length ≤ 9223372036854775807) (n0 : Int) (hn0 : 0 ≤ n0 ∧ n0 < 256) :
    Calls Try.prog 8 #[.string ⟨key.toArray⟩, .int .u8 n0] w fun e w' => e = .returned (.bool true) ∧ Below w.heap.size w w' := by
  obtain ⟨n, rfl⟩ : ∃ n : Nat, n0 = (n : Int) := ⟨n0.toNat, by omega⟩
  have hn : n < 256 := by omega
  have HNW := Lib.hid (wrapK (x := (n : Int)) (by omega) (by omega))
  obtain ⟨z0, hz0⟩ : ∃ z : Int, 0 = z := ⟨0, rfl⟩
  have HZ0 := Lib.hid hz0
  clear hz0 hn0
  go_enter Try.func8, Try.ntmps8
  go_wp2_with (fail)
  refine (head13_any w).mono ?_
  rintro e w1 ⟨rfl, hg1⟩
  have HG1 := Lib.hid hg1
  clear hg1
  go_wp2_with (fail)
  refine (new_in (B := w.heap.size) (out := fun _ => False) HG1.out HG1.out.size (fun k hk => hk.elim)).mono ?_
  rintro e w2 ⟨d, rfl, hk2, hg2⟩
  have H2 := Lib.hid hk2
  clear hk2 hg2
  by_cases hbig : 900 < key.length
  · have HLN := Lib.hid hbig
    go_wp2_with (fail)
    go_ret
    exact ⟨rfl, H2.out.low⟩
  have HL := Lib.hid (show key.length ≤ 900 from by omega)
  go_wp2_with (fail)
  go_loopw [7] (fun vi wr => ∃ (i : Nat), i ≤ n + 1 ∧ vi = .int .i64 (i : Int) ∧ Hid (KsIn w.heap.size w wr d (fun _ => False) (if i = 0 then [] else [plc key ((i - 1 : Nat) : Int)]))) (fun vi _ => n + 1 - (intOf vi).toNat)
  case atStart => exact ⟨0, Nat.zero_le _, rfl, Lib.hid H2.out⟩
  case round =>
    obtain ⟨i, hi, rfl, HJ⟩ := hrel
    by_cases hlt : i ≤ n
    · have hli : (i : Int) ≤ (n : Int) := by omega
      obtain ⟨wn1, wn2⟩ := HNW.out
      cases i with
      | zero =>
        rw [if_pos rfl] at HJ
        simp only [Int.natCast_zero] at *
        go_wp2_with (fail)
        clear wn1 wn2
        refine (place_any key 0 wr).mono ?_
        rintro e w3 ⟨rfl, hg3⟩
        have HP := Lib.hid (show Calls Try.prog 20 #[.pointer (some ⟨d, 0, none⟩), .agg #[.int .i64 0, .int .i64 3, .string ⟨key.toArray⟩, .int .i64 13, .int .i64 20]] w3 fun e w' => e = .returned (.tuple #[.agg #[.int .i64 0, .int .i64 0, .string ⟨#[]⟩, .int .i64 0, .int .i64 z0], .bool false]) ∧ KsIn w.heap.size w w' d (fun _ => False) [plc key 0] ∧ KStays w.heap.size (fun _ => False) w3 w' from by
          have hz := HZ0.out; subst hz; exact put_at (plc key 0) (HJ.out.grow hg3) (by show key.length ≤ _; have := HL.out; omega) (by show 0 < _; omega) (rfl) (rfl))
        clear hg3
        unfold plV plc
        dsimp only
        go_wp2_with (fail)
        refine HP.out.mono ?_
        rintro e w4 ⟨rfl, hk4, _⟩
        have hm4 := Whole.made w4 32 #[.int .i64 0, .int .i64 0, .string ⟨#[]⟩, .int .i64 0, .int .i64 z0]
        have hg4 := grows_alloc w4 (.cells #[.int .i64 0, .int .i64 0, .string ⟨#[]⟩, .int .i64 0, .int .i64 z0] 32)
        obtain ⟨V4, hV4⟩ : ∃ V, w4.alloc (.cells #[.int .i64 0, .int .i64 0, .string ⟨#[]⟩, .int .i64 0, .int .i64 z0] 32) = V := ⟨_, rfl⟩
        rw [hV4] at hm4 hg4
        obtain ⟨vb, hvb⟩ : ∃ vb, w4.heap.size = vb := ⟨_, rfl⟩
        rw [hvb] at hm4
        have HVB := Lib.hid (show ∀ w', Grows V4 w' → Whole w' vb 32 #[.int .i64 0, .int .i64 0, .string ⟨#[]⟩, .int .i64 0, .int .i64 z0] from fun w' hg => hg.whole hm4)
        have HK4 := Lib.hid (hk4.grow hg4)
        have HMA := Lib.hid (show ∀ w', Grows V4 w' → Calls Try.prog 22 #[.pointer (some ⟨d, 0, none⟩)] w' fun e w'' => e = .returned (.int .i64 1) ∧ Grows w' w'' from fun w' hg => (many_at (HK4.out.grow hg) (by show 1 < _; omega) (n := 1) rfl).mono fun e w'' ⟨h1, h2⟩ => ⟨h1, h2 ▸ Grows.refl _⟩)
        clear hk4 hm4 hg4 HP
        go_wp2_with (first | rw [hV4] | fail)
        clear hV4 hvb
        refine wp_region_facts (E := Grows) [valFact (.bool false), valFact (.int .i64 0), valFact (.bool false), valFact (.bool false), valFact (.bool false), valFact (.bool false), valFact (.bool false), valFact undef, valFact undef, valFact undef, valFact undef, valFact undef, valFact undef, valFact (.bool false), valFact (.bool false), valFact (.bool false), valFact (.pointer (some ⟨d, 0, none⟩)), valFact (.int .i64 1), valFact (.bool false), valFact (.bool false)] (by kernel_rfl) (by kernel_rfl) (fun _ _ _ => Grows.trans) (grows_drew _) ?_
        refine f_val (.bool false) (by rfl) ?_ ?_
        · intro w' hC; clear hC; go_simp
        simp only [Act.put, List.setIfInBounds_toArray, List.set_cons_zero, List.set_cons_succ]
        refine f_val (.int .i64 0) (by rfl) ?_ ?_
        · intro w' hC; clear hC; go_simp
        simp only [Act.put, List.setIfInBounds_toArray, List.set_cons_zero, List.set_cons_succ]
        refine f_val (.bool false) (by rfl) ?_ ?_
        · intro w' hC; clear hC; go_simp
        simp only [Act.put, List.setIfInBounds_toArray, List.set_cons_zero, List.set_cons_succ]
        refine f_val (.bool false) (by rfl) ?_ ?_
        · intro w' hC; clear hC; go_simp
        simp only [Act.put, List.setIfInBounds_toArray, List.set_cons_zero, List.set_cons_succ]
        refine f_val (.bool false) (by rfl) ?_ ?_
        · intro w' hC; clear hC; go_simp
        simp only [Act.put, List.setIfInBounds_toArray, List.set_cons_zero, List.set_cons_succ]
        refine f_val (.bool false) (by rfl) ?_ ?_
        · intro w' hC; clear hC; go_simp
        simp only [Act.put, List.setIfInBounds_toArray, List.set_cons_zero, List.set_cons_succ]
        refine f_val (.bool false) (by rfl) ?_ ?_
        · intro w' hC; clear hC; go_simp
        simp only [Act.put, List.setIfInBounds_toArray, List.set_cons_zero, List.set_cons_succ]
        refine f_skip (by rfl) ?_
        simp only [Act.put, List.setIfInBounds_toArray, List.set_cons_zero, List.set_cons_succ]
        refine f_skip (by rfl) ?_
        simp only [Act.put, List.setIfInBounds_toArray, List.set_cons_zero, List.set_cons_succ]
        refine f_skip (by rfl) ?_
        simp only [Act.put, List.setIfInBounds_toArray, List.set_cons_zero, List.set_cons_succ]
        refine f_skip (by rfl) ?_
        simp only [Act.put, List.setIfInBounds_toArray, List.set_cons_zero, List.set_cons_succ]
        refine f_skip (by rfl) ?_
        simp only [Act.put, List.setIfInBounds_toArray, List.set_cons_zero, List.set_cons_succ]
        refine f_skip (by rfl) ?_
        simp only [Act.put, List.setIfInBounds_toArray, List.set_cons_zero, List.set_cons_succ]
        refine f_val (.bool false) (by rfl) ?_ ?_
        · intro w' hC; clear hC; go_simp
        simp only [Act.put, List.setIfInBounds_toArray, List.set_cons_zero, List.set_cons_succ]
        refine f_val (.bool false) (by rfl) ?_ ?_
        · intro w' hC; clear hC; go_simp
        simp only [Act.put, List.setIfInBounds_toArray, List.set_cons_zero, List.set_cons_succ]
        refine f_val (.bool false) (by rfl) ?_ ?_
        · intro w' hC; clear hC; go_simp
        simp only [Act.put, List.setIfInBounds_toArray, List.set_cons_zero, List.set_cons_succ]
        refine f_val (.pointer (some ⟨d, 0, none⟩)) (by rfl) ?_ ?_
        · intro w' hC; clear hC; go_simp
        simp only [Act.put, List.setIfInBounds_toArray, List.set_cons_zero, List.set_cons_succ]
        refine f_call 22 #[.pointer (some ⟨d, 0, none⟩)] (.int .i64 1) (by rfl) (by intro w' hC; clear hC; go_simp) ?_ ?_
        · intro w' hC _; exact HMA.out w' hC
        simp only [Act.put, List.setIfInBounds_toArray, List.set_cons_zero, List.set_cons_succ]
        refine f_val (.bool false) (by rfl) ?_ ?_
        · intro w' hC; clear hC; go_simp
        simp only [Act.put, List.setIfInBounds_toArray, List.set_cons_zero, List.set_cons_succ]
        refine f_val (.bool false) (by rfl) ?_ ?_
        · intro w' hC; clear hC; go_simp
        simp only [Act.put, List.setIfInBounds_toArray, List.set_cons_zero, List.set_cons_succ]
        refine wpF_end ?_
        intro w8 hC hks
        have HCw8 := Lib.hid hC
        clear hC hks
        go_wp2_with (fail)
        go_roundw
        case rel => exact ⟨1, by omega, by first | rfl | go_num, Lib.hid (HK4.out.grow HCw8.out)⟩
        case measure => simp [intOf]
      | succ j =>
        rw [if_neg (by omega), show j + 1 - 1 = j by omega] at HJ
        obtain ⟨i, hi2⟩ : ∃ i, j + 1 = i := ⟨_, rfl⟩
        rw [hi2] at hi hlt hli ⊢
        have HJI := Lib.hid hi2
        have hip : (0 : Int) < (i : Int) := by omega
        have hip2 : 0 < i := by omega
        have HJW := Lib.hid (show (i : Int) - 1 = (j : Int) ∧ IntKind.i64.wrap (j : Int) = (j : Int) ∧ wrap64 (j : Int) = (j : Int) from ⟨by omega, wrapK (by omega) (by omega)⟩)
        have HEQ := Lib.hid (show ∀ w', (Op.equalIn 10000 32 (.agg #[.int .i64 ((j : Nat) : Int), .int .i64 3, .string ⟨key.toArray⟩, .int .i64 13, .int .i64 20]) (.agg #[.int .i64 ((j : Nat) : Int), .int .i64 3, .string ⟨key.toArray⟩, .int .i64 13, .int .i64 20])).run Try.prog w' = .ok true w' from fun w' => (eq_pl (plc key j) (plc key j) w').trans (by rw [decide_eq_true rfl]))
        clear hi2
        go_wp2_with (fail)
        clear wn1 wn2
        refine (place_any key ((i : Nat) : Int) wr).mono ?_
        rintro e w3 ⟨rfl, hg3⟩
        have HP := Lib.hid (show Calls Try.prog 20 #[.pointer (some ⟨d, 0, none⟩), .agg #[.int .i64 ((i : Nat) : Int), .int .i64 3, .string ⟨key.toArray⟩, .int .i64 13, .int .i64 20]] w3 fun e w' => e = .returned (.tuple #[.agg #[.int .i64 ((j : Nat) : Int), .int .i64 3, .string ⟨key.toArray⟩, .int .i64 13, .int .i64 20], .bool true]) ∧ KsIn w.heap.size w w' d (fun _ => False) [plc key ((i : Nat) : Int)] ∧ KStays w.heap.size (fun _ => False) w3 w' from by
          exact put_at (plc key ((i : Nat) : Int)) (HJ.out.grow hg3) (by show key.length ≤ _; have := HL.out; omega) (by show 1 < _; omega) (twice_get key _ _) (twice_put key _ _))
        clear hg3
        unfold plV plc
        dsimp only
        go_wp2_with (fail)
        refine HP.out.mono ?_
        rintro e w4 ⟨rfl, hk4, _⟩
        have hm4 := Whole.made w4 32 #[.int .i64 ((j : Nat) : Int), .int .i64 3, .string ⟨key.toArray⟩, .int .i64 13, .int .i64 20]
        have hg4 := grows_alloc w4 (.cells #[.int .i64 ((j : Nat) : Int), .int .i64 3, .string ⟨key.toArray⟩, .int .i64 13, .int .i64 20] 32)
        obtain ⟨V4, hV4⟩ : ∃ V, w4.alloc (.cells #[.int .i64 ((j : Nat) : Int), .int .i64 3, .string ⟨key.toArray⟩, .int .i64 13, .int .i64 20] 32) = V := ⟨_, rfl⟩
        rw [hV4] at hm4 hg4
        obtain ⟨vb, hvb⟩ : ∃ vb, w4.heap.size = vb := ⟨_, rfl⟩
        rw [hvb] at hm4
        have HVB := Lib.hid (show ∀ w', Grows V4 w' → Whole w' vb 32 #[.int .i64 ((j : Nat) : Int), .int .i64 3, .string ⟨key.toArray⟩, .int .i64 13, .int .i64 20] from fun w' hg => hg.whole hm4)
        have HK4 := Lib.hid (hk4.grow hg4)
        have HMA := Lib.hid (show ∀ w', Grows V4 w' → Calls Try.prog 22 #[.pointer (some ⟨d, 0, none⟩)] w' fun e w'' => e = .returned (.int .i64 1) ∧ Grows w' w'' from fun w' hg => (many_at (HK4.out.grow hg) (by show 1 < _; omega) (n := 1) rfl).mono fun e w'' ⟨h1, h2⟩ => ⟨h1, h2 ▸ Grows.refl _⟩)
        clear hk4 hm4 hg4 HP
        go_wp2_with (first | rw [hV4] | fail)
        clear hV4 hvb
        refine wp_region_facts (E := Grows) [valFact (.bool true), valFact (.int .i64 ((i : Nat) : Int)), valFact (.bool true), valFact (.bool false), valFact (.bool false), valFact (.bool true), valFact (.bool true), valFact (.agg #[.int .i64 ((j : Nat) : Int), .int .i64 3, .string ⟨key.toArray⟩, .int .i64 13, .int .i64 20]), valFact (.string ⟨key.toArray⟩), valFact (.int .i64 ((i : Nat) : Int)), valFact (.int .i64 ((j : Nat) : Int)), valFact (.agg #[.int .i64 ((j : Nat) : Int), .int .i64 3, .string ⟨key.toArray⟩, .int .i64 13, .int .i64 20]), valFact (.bool false), valFact (.bool false), valFact (.bool false), valFact (.bool false), valFact (.pointer (some ⟨d, 0, none⟩)), valFact (.int .i64 1), valFact (.bool false), valFact (.bool false)] (by kernel_rfl) (by kernel_rfl) (fun _ _ _ => Grows.trans) (grows_drew _) ?_
        refine f_val (.bool true) (by rfl) ?_ ?_
        · intro w' hC; clear hC; go_simp
        simp only [Act.put, List.setIfInBounds_toArray, List.set_cons_zero, List.set_cons_succ]
        refine f_val (.int .i64 ((i : Nat) : Int)) (by rfl) ?_ ?_
        · intro w' hC; clear hC; go_simp
        simp only [Act.put, List.setIfInBounds_toArray, List.set_cons_zero, List.set_cons_succ]
        refine f_val (.bool true) (by rfl) ?_ ?_
        · intro w' hC; clear hC; go_simp
        simp only [Act.put, List.setIfInBounds_toArray, List.set_cons_zero, List.set_cons_succ]
        refine f_val (.bool false) (by rfl) ?_ ?_
        · intro w' hC; clear hC; go_simp
        simp only [Act.put, List.setIfInBounds_toArray, List.set_cons_zero, List.set_cons_succ]
        refine f_val (.bool false) (by rfl) ?_ ?_
        · intro w' hC; clear hC; go_simp
        simp only [Act.put, List.setIfInBounds_toArray, List.set_cons_zero, List.set_cons_succ]
        refine f_val (.bool true) (by rfl) ?_ ?_
        · intro w' hC; clear hC; go_simp
        simp only [Act.put, List.setIfInBounds_toArray, List.set_cons_zero, List.set_cons_succ]
        refine f_val (.bool true) (by rfl) ?_ ?_
        · intro w' hC; clear hC; go_simp
        simp only [Act.put, List.setIfInBounds_toArray, List.set_cons_zero, List.set_cons_succ]
        refine f_val (.agg #[.int .i64 ((j : Nat) : Int), .int .i64 3, .string ⟨key.toArray⟩, .int .i64 13, .int .i64 20]) (by rfl) ?_ ?_
        · intro w' hC; have q := HVB.out w' hC; have q0 := q.cell 0; have q1 := q.cell 1; have q2 := q.cell 2; have q3 := q.cell 3; have q4 := q.cell 4; simp only [List.getElem?_toArray, List.getElem?_cons_zero, List.getElem?_cons_succ] at q0 q1 q2 q3 q4; clear q; clear hC; go_simp
        simp only [Act.put, List.setIfInBounds_toArray, List.set_cons_zero, List.set_cons_succ]
        refine f_val (.string ⟨key.toArray⟩) (by rfl) ?_ ?_
        · intro w' hC; clear hC; go_simp
        simp only [Act.put, List.setIfInBounds_toArray, List.set_cons_zero, List.set_cons_succ]
        refine f_val (.int .i64 ((i : Nat) : Int)) (by rfl) ?_ ?_
        · intro w' hC; clear hC; go_simp
        simp only [Act.put, List.setIfInBounds_toArray, List.set_cons_zero, List.set_cons_succ]
        refine f_val (.int .i64 ((j : Nat) : Int)) (by rfl) ?_ ?_
        · intro w' hC; have z1 := HJW.out.1; have z2 := HJW.out.2.1; have z3 := HJW.out.2.2; clear hC; go_simp
        simp only [Act.put, List.setIfInBounds_toArray, List.set_cons_zero, List.set_cons_succ]
        refine f_call 26 #[.string ⟨key.toArray⟩, .int .i64 ((j : Nat) : Int)] (.agg #[.int .i64 ((j : Nat) : Int), .int .i64 3, .string ⟨key.toArray⟩, .int .i64 13, .int .i64 20]) (by rfl) (by intro w' hC; clear hC; go_simp) ?_ ?_
        · intro w' hC _; exact place_any key j w'
        simp only [Act.put, List.setIfInBounds_toArray, List.set_cons_zero, List.set_cons_succ]
        refine f_val (.bool false) (by rfl) ?_ ?_
        · intro w' hC; have z := HEQ.out w'; clear hC; go_simp
        simp only [Act.put, List.setIfInBounds_toArray, List.set_cons_zero, List.set_cons_succ]
        refine f_val (.bool false) (by rfl) ?_ ?_
        · intro w' hC; clear hC; go_simp
        simp only [Act.put, List.setIfInBounds_toArray, List.set_cons_zero, List.set_cons_succ]
        refine f_val (.bool false) (by rfl) ?_ ?_
        · intro w' hC; clear hC; go_simp
        simp only [Act.put, List.setIfInBounds_toArray, List.set_cons_zero, List.set_cons_succ]
        refine f_val (.bool false) (by rfl) ?_ ?_
        · intro w' hC; clear hC; go_simp
        simp only [Act.put, List.setIfInBounds_toArray, List.set_cons_zero, List.set_cons_succ]
        refine f_val (.pointer (some ⟨d, 0, none⟩)) (by rfl) ?_ ?_
        · intro w' hC; clear hC; go_simp
        simp only [Act.put, List.setIfInBounds_toArray, List.set_cons_zero, List.set_cons_succ]
        refine f_call 22 #[.pointer (some ⟨d, 0, none⟩)] (.int .i64 1) (by rfl) (by intro w' hC; clear hC; go_simp) ?_ ?_
        · intro w' hC _; exact HMA.out w' hC
        simp only [Act.put, List.setIfInBounds_toArray, List.set_cons_zero, List.set_cons_succ]
        refine f_val (.bool false) (by rfl) ?_ ?_
        · intro w' hC; clear hC; go_simp
        simp only [Act.put, List.setIfInBounds_toArray, List.set_cons_zero, List.set_cons_succ]
        refine f_val (.bool false) (by rfl) ?_ ?_
        · intro w' hC; clear hC; go_simp
        simp only [Act.put, List.setIfInBounds_toArray, List.set_cons_zero, List.set_cons_succ]
        refine wpF_end ?_
        intro w8 hC hks
        have HCw8 := Lib.hid hC
        clear hC hks
        go_wp2_with (fail)
        go_roundw
        case rel => exact ⟨i + 1, by omega, by first | rfl | go_num, Lib.hid (by rw [if_neg (by omega), show i + 1 - 1 = i by omega]; exact HK4.out.grow HCw8.out)⟩
        case measure => simp [intOf]; omega
    · obtain rfl : i = n + 1 := by omega
      have hli : ¬ ((n + 1 : Nat) : Int) ≤ (n : Int) := by omega
      rw [if_neg (by omega), show n + 1 - 1 = n by omega] at HJ
      obtain ⟨wn1, wn2⟩ := HNW.out
      have HDE := Lib.hid (show Calls Try.prog 13 #[.pointer (some ⟨d, 0, none⟩), .string ⟨key.toArray⟩] wr fun e w' => e = .returned (.tuple #[.agg #[.int .i64 (n : Int), .int .i64 3, .string ⟨key.toArray⟩, .int .i64 13, .int .i64 20], .bool true]) ∧ KsIn w.heap.size w w' d (fun _ => False) [] ∧ KStays w.heap.size (fun _ => False) wr w' from del_at key HJ.out (by have := HL.out; omega) (by show 1 < _; omega) (twice_get key 0 n) (twice_del key n))
      go_wp2_with (fail)
      clear wn1 wn2
      refine HDE.out.mono ?_
      rintro e w4 ⟨rfl, hk4, _⟩
      have hm4 := Whole.made w4 32 #[.int .i64 (n : Int), .int .i64 3, .string ⟨key.toArray⟩, .int .i64 13, .int .i64 20]
      have hg4 := grows_alloc w4 (.cells #[.int .i64 (n : Int), .int .i64 3, .string ⟨key.toArray⟩, .int .i64 13, .int .i64 20] 32)
      obtain ⟨V4, hV4⟩ : ∃ V, w4.alloc (.cells #[.int .i64 (n : Int), .int .i64 3, .string ⟨key.toArray⟩, .int .i64 13, .int .i64 20] 32) = V := ⟨_, rfl⟩
      rw [hV4] at hm4 hg4
      have hk4' := hk4.more hg4
      have hz4 : V4.heap.size = w4.heap.size + 1 := by rw [← hV4, World.size_alloc]
      obtain ⟨pb, hpb⟩ : ∃ pb, w4.heap.size = pb := ⟨_, rfl⟩
      rw [hpb] at hm4
      have HDE2 := Lib.hid (show Calls Try.prog 13 #[.pointer (some ⟨d, 0, none⟩), .string ⟨key.toArray⟩] V4 fun e w' => e = .returned (.tuple #[.agg #[.int .i64 0, .int .i64 0, .string ⟨#[]⟩, .int .i64 0, .int .i64 z0], .bool false]) ∧ KsIn w.heap.size w w' d (fun k => False ∨ (w4.heap.size ≤ k ∧ k < V4.heap.size)) [] ∧ KStays w.heap.size (fun k => False ∨ (w4.heap.size ≤ k ∧ k < V4.heap.size)) V4 w' from by
        have hz := HZ0.out; subst hz; exact del_at key hk4' (by have := HL.out; omega) (by show 0 < _; omega) rfl rfl)
      have H4 := Lib.hid (And.intro hm4 (show w4.heap.size ≤ pb ∧ pb < V4.heap.size from by omega))
      clear hk4 hm4 hg4 hk4' hz4 HDE
      go_wp2_with (first | rw [hV4] | fail)
      clear hV4 hpb
      refine HDE2.out.mono ?_
      rintro e w5 ⟨rfl, hk5, hs5⟩
      have hm5 : Whole w5 pb 32 #[.int .i64 (n : Int), .int .i64 3, .string ⟨key.toArray⟩, .int .i64 13, .int .i64 20] := (hs5.keep H4.out.1.lt (.inr (.inr H4.out.2))).trans H4.out.1
      have hg5 := grows_alloc w5 (.cells #[.int .i64 0, .int .i64 0, .string ⟨#[]⟩, .int .i64 0, .int .i64 z0] 32)
      obtain ⟨V5, hV5⟩ : ∃ V, w5.alloc (.cells #[.int .i64 0, .int .i64 0, .string ⟨#[]⟩, .int .i64 0, .int .i64 z0] 32) = V := ⟨_, rfl⟩
      rw [hV5] at hg5
      have HPB := Lib.hid (show ∀ w', Grows V5 w' → Whole w' pb 32 #[.int .i64 (n : Int), .int .i64 3, .string ⟨key.toArray⟩, .int .i64 13, .int .i64 20] from fun w' hg => hg.whole (hg5.whole hm5))
      have HK5 := Lib.hid (hk5.grow hg5)
      have HMA := Lib.hid (show ∀ w', Grows V5 w' → Calls Try.prog 22 #[.pointer (some ⟨d, 0, none⟩)] w' fun e w'' => e = .returned (.int .i64 0) ∧ Grows w' w'' from fun w' hg => (many_at (HK5.out.grow hg) (by show 0 < _; omega) (n := 0) rfl).mono fun e w'' ⟨h1, h2⟩ => ⟨h1, h2 ▸ Grows.refl _⟩)
      have HLI := Lib.hid (show ∀ w', Grows V5 w' → Calls Try.prog 24 #[.pointer (some ⟨d, 0, none⟩)] w' fun e w'' => e = .returned (.slice none 0 0) ∧ Grows w' w'' from fun w' hg => list_none (HK5.out.grow hg))
      have HEQ := Lib.hid (show ∀ w', (Op.equalIn 10000 32 (.agg #[.int .i64 (n : Int), .int .i64 3, .string ⟨key.toArray⟩, .int .i64 13, .int .i64 20]) (.agg #[.int .i64 (n : Int), .int .i64 3, .string ⟨key.toArray⟩, .int .i64 13, .int .i64 20])).run Try.prog w' = .ok true w' from fun w' => (eq_pl (plc key n) (plc key n) w').trans (by rw [decide_eq_true rfl]))
      clear hk5 hs5 hm5 hg5 HDE2
      go_wp2_with (first | rw [hV5] | fail)
      clear hV5
      refine wp_region_facts (E := Grows) [valFact (.bool true), valFact (.bool true), valFact (.bool true), valFact (.bool true), valFact (.bool true), valFact (.agg #[.int .i64 (n : Int), .int .i64 3, .string ⟨key.toArray⟩, .int .i64 13, .int .i64 20]), valFact (.string ⟨key.toArray⟩), valFact (.int .u8 (n : Int)), valFact (.int .i64 (n : Int)), valFact (.agg #[.int .i64 (n : Int), .int .i64 3, .string ⟨key.toArray⟩, .int .i64 13, .int .i64 20]), valFact (.bool true), valFact (.bool true), valFact (.bool true), valFact (.bool false), valFact (.bool true), valFact (.bool true), valFact (.bool true), valFact (.pointer (some ⟨d, 0, none⟩)), valFact (.int .i64 0), valFact (.bool true), valFact (.bool true), valFact (.bool true), valFact (.pointer (some ⟨d, 0, none⟩)), valFact (.slice none 0 0), valFact (.int .i64 0), valFact (.bool true), valFact (.bool true), valFact (.bool true)] (by kernel_rfl) (by kernel_rfl) (fun _ _ _ => Grows.trans) (grows_drew _) ?_
      refine f_val (.bool true) (by rfl) ?_ ?_
      · intro w' hC; clear hC; go_simp
      simp only [Act.put, List.setIfInBounds_toArray, List.set_cons_zero, List.set_cons_succ]
      refine f_val (.bool true) (by rfl) ?_ ?_
      · intro w' hC; clear hC; go_simp
      simp only [Act.put, List.setIfInBounds_toArray, List.set_cons_zero, List.set_cons_succ]
      refine f_val (.bool true) (by rfl) ?_ ?_
      · intro w' hC; clear hC; go_simp
      simp only [Act.put, List.setIfInBounds_toArray, List.set_cons_zero, List.set_cons_succ]
      refine f_val (.bool true) (by rfl) ?_ ?_
      · intro w' hC; clear hC; go_simp
      simp only [Act.put, List.setIfInBounds_toArray, List.set_cons_zero, List.set_cons_succ]
      refine f_val (.bool true) (by rfl) ?_ ?_
      · intro w' hC; clear hC; go_simp
      simp only [Act.put, List.setIfInBounds_toArray, List.set_cons_zero, List.set_cons_succ]
      refine f_val (.agg #[.int .i64 (n : Int), .int .i64 3, .string ⟨key.toArray⟩, .int .i64 13, .int .i64 20]) (by rfl) ?_ ?_
      · intro w' hC; have q := HPB.out w' hC; have q0 := q.cell 0; have q1 := q.cell 1; have q2 := q.cell 2; have q3 := q.cell 3; have q4 := q.cell 4; simp only [List.getElem?_toArray, List.getElem?_cons_zero, List.getElem?_cons_succ] at q0 q1 q2 q3 q4; clear q; clear hC; go_simp
      simp only [Act.put, List.setIfInBounds_toArray, List.set_cons_zero, List.set_cons_succ]
      refine f_val (.string ⟨key.toArray⟩) (by rfl) ?_ ?_
      · intro w' hC; clear hC; go_simp
      simp only [Act.put, List.setIfInBounds_toArray, List.set_cons_zero, List.set_cons_succ]
      refine f_val (.int .u8 (n : Int)) (by rfl) ?_ ?_
      · intro w' hC; clear hC; go_simp
      simp only [Act.put, List.setIfInBounds_toArray, List.set_cons_zero, List.set_cons_succ]
      refine f_val (.int .i64 (n : Int)) (by rfl) ?_ ?_
      · intro w' hC; have z1 := HNW.out.1; have z2 := HNW.out.2; clear hC; go_simp
      simp only [Act.put, List.setIfInBounds_toArray, List.set_cons_zero, List.set_cons_succ]
      refine f_call 26 #[.string ⟨key.toArray⟩, .int .i64 (n : Int)] (.agg #[.int .i64 (n : Int), .int .i64 3, .string ⟨key.toArray⟩, .int .i64 13, .int .i64 20]) (by rfl) (by intro w' hC; clear hC; go_simp) ?_ ?_
      · intro w' hC _; exact place_any key n w'
      simp only [Act.put, List.setIfInBounds_toArray, List.set_cons_zero, List.set_cons_succ]
      refine f_val (.bool true) (by rfl) ?_ ?_
      · intro w' hC; have z := HEQ.out w'; clear hC; go_simp
      simp only [Act.put, List.setIfInBounds_toArray, List.set_cons_zero, List.set_cons_succ]
      refine f_val (.bool true) (by rfl) ?_ ?_
      · intro w' hC; clear hC; go_simp
      simp only [Act.put, List.setIfInBounds_toArray, List.set_cons_zero, List.set_cons_succ]
      refine f_val (.bool true) (by rfl) ?_ ?_
      · intro w' hC; clear hC; go_simp
      simp only [Act.put, List.setIfInBounds_toArray, List.set_cons_zero, List.set_cons_succ]
      refine f_val (.bool false) (by rfl) ?_ ?_
      · intro w' hC; clear hC; go_simp
      simp only [Act.put, List.setIfInBounds_toArray, List.set_cons_zero, List.set_cons_succ]
      refine f_val (.bool true) (by rfl) ?_ ?_
      · intro w' hC; clear hC; go_simp
      simp only [Act.put, List.setIfInBounds_toArray, List.set_cons_zero, List.set_cons_succ]
      refine f_val (.bool true) (by rfl) ?_ ?_
      · intro w' hC; clear hC; go_simp
      simp only [Act.put, List.setIfInBounds_toArray, List.set_cons_zero, List.set_cons_succ]
      refine f_val (.bool true) (by rfl) ?_ ?_
      · intro w' hC; clear hC; go_simp
      simp only [Act.put, List.setIfInBounds_toArray, List.set_cons_zero, List.set_cons_succ]
      refine f_val (.pointer (some ⟨d, 0, none⟩)) (by rfl) ?_ ?_
      · intro w' hC; clear hC; go_simp
      simp only [Act.put, List.setIfInBounds_toArray, List.set_cons_zero, List.set_cons_succ]
      refine f_call 22 #[.pointer (some ⟨d, 0, none⟩)] (.int .i64 0) (by rfl) (by intro w' hC; clear hC; go_simp) ?_ ?_
      · intro w' hC _; exact HMA.out w' hC
      simp only [Act.put, List.setIfInBounds_toArray, List.set_cons_zero, List.set_cons_succ]
      refine f_val (.bool true) (by rfl) ?_ ?_
      · intro w' hC; clear hC; go_simp
      simp only [Act.put, List.setIfInBounds_toArray, List.set_cons_zero, List.set_cons_succ]
      refine f_val (.bool true) (by rfl) ?_ ?_
      · intro w' hC; clear hC; go_simp
      simp only [Act.put, List.setIfInBounds_toArray, List.set_cons_zero, List.set_cons_succ]
      refine f_val (.bool true) (by rfl) ?_ ?_
      · intro w' hC; clear hC; go_simp
      simp only [Act.put, List.setIfInBounds_toArray, List.set_cons_zero, List.set_cons_succ]
      refine f_val (.pointer (some ⟨d, 0, none⟩)) (by rfl) ?_ ?_
      · intro w' hC; clear hC; go_simp
      simp only [Act.put, List.setIfInBounds_toArray, List.set_cons_zero, List.set_cons_succ]
      refine f_call 24 #[.pointer (some ⟨d, 0, none⟩)] (.slice none 0 0) (by rfl) (by intro w' hC; clear hC; go_simp) ?_ ?_
      · intro w' hC _; exact HLI.out w' hC
      simp only [Act.put, List.setIfInBounds_toArray, List.set_cons_zero, List.set_cons_succ]
      refine f_val (.int .i64 0) (by rfl) ?_ ?_
      · intro w' hC; clear hC; go_simp
      simp only [Act.put, List.setIfInBounds_toArray, List.set_cons_zero, List.set_cons_succ]
      refine f_val (.bool true) (by rfl) ?_ ?_
      · intro w' hC; clear hC; go_simp
      simp only [Act.put, List.setIfInBounds_toArray, List.set_cons_zero, List.set_cons_succ]
      refine f_val (.bool true) (by rfl) ?_ ?_
      · intro w' hC; clear hC; go_simp
      simp only [Act.put, List.setIfInBounds_toArray, List.set_cons_zero, List.set_cons_succ]
      refine f_val (.bool true) (by rfl) ?_ ?_
      · intro w' hC; clear hC; go_simp
      simp only [Act.put, List.setIfInBounds_toArray, List.set_cons_zero, List.set_cons_succ]
      refine wpF_end ?_
      intro w9 hC hks
      have HCw9 := Lib.hid hC
      clear hC hks
      go_wp2_with (fail)
      go_ret
      exact ⟨rfl, (HK5.out.grow HCw9.out).low⟩

set_option maxRecDepth 100000 in
theorem keysTwice_lifted (os : Os) (started : os.Started) (H : Type) (enc : TypeId × Value → H) :
    ReturnsInHanded {} Try.checked os 8 .any (Rows.keysTwiceSpec.pre6 enc Try.prog Try.f8 Rows.keysTwiceRow.domain false) (Rows.keysTwiceSpec.post enc Try.prog Try.f8 false true false false) := by
  refine lift_law (C := Try.checked) H enc own started (by kernel_rfl) Try.func8
    (ChangeSpec.witness6 (enc := enc) (C := Try.checked) false ⟨#[], #[.string ⟨#[]⟩, .int .u8 0], []⟩ 16 (by kernel_rfl) (by kernel_rfl) (by kernel_rfl) (by kernel_rfl))
    laidOut (of_readable (by kernel_rfl)) rfl Try.underlying4 rfl (fun ds hd => ?_) (fun W base args ds p hval hA hsz => ?_)
  · match ds, hd with
    | [d1, d2], _ => rfl
  · rw [Try.params8] at hA hval hsz
    obtain ⟨v0, vs0, d0, ds0, p0, q0, hargs, rfl, rfl, h0, r0⟩ := trodAll_cons hA
    obtain ⟨v1, vs1, d1, ds1, p1, q1, rfl, rfl, rfl, h1, r1⟩ := trodAll_cons r0
    obtain ⟨rfl, rfl, rfl⟩ := trodAll_nil r1
    obtain rfl : args = #[v0, v1] := by cases args; simp_all
    obtain ⟨l0, rfl, hl0⟩ := open_text Try.underlying9 (hval 0 9 v0 rfl rfl) h0
    obtain ⟨a1, rfl, _, _, w1⟩ := open_int Try.underlying5 (hval 1 5 v1 rfl rfl) h1
    have b1 := bounds_u8 w1
    exact keysTwice_law W l0 hl0 a1 (by omega)

theorem keysTwice_over : Rows.keysTwiceRow.holds Try.pinned (OpenSpec.ofChange Rows.keysTwiceSpec) :=
  OpenClaim.holds_of_wide 8 Try.f8 rfl rfl rfl rfl rfl rfl rfl ⟨rfl, rfl, rfl, rfl, rfl⟩ rfl rfl rfl rfl rfl (by kernel_rfl) Try.func8 (by kernel_rfl)
    (of_decide_eq_true (by kernel_rfl)) (by unfold Func.isWrapper; first | (rw [if_pos (by decide +kernel)]; kernel_rfl) | (rw [if_neg (by decide +kernel)]; exact ⟨rfl, rfl⟩))
    (fun os started H enc _ => keysTwice_lifted os started H enc)
theorem keysTwice_holds : Rows.KeysTwiceSaid := keysTwice_over
end Go.Proofs.Ytadgbobemmfjoaa