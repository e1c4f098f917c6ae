/-
  Statement KeysOrder: all keys are told, once, in order: those that have a place, and no other ones. Every list of calls, no condition.
-/
import Derived.Test.YtadgbobemmfjoaaKsGreat
import Derived.Test.YtadgbobemmfjoaaText
import Derived.ProofKit
import Derived.ChangeOld
namespace Go.Proofs.Ytadgbobemmfjoaa
open Go.ChangeShapes Go.WideShapes Go.ChangeAt Go.RowKit
set_option linter.unusedSimpArgs false
set_option linter.unusedVariables false
attribute [local irreducible] wpF

theorem klen_del (key : List UInt8) (L : List Pl) {i : Nat} (h : L.length ≤ i) : (delL key L).length ≤ i + 1 := by have := delL_len key L; omega
theorem klen_put (p : Pl) (L : List Pl) {i : Nat} (h : L.length ≤ i) : (kputL p L).length ≤ i + 1 := by have := putL_len p L; omega

theorem keys_at {L : List Pl} {j : Nat} {k : List UInt8} (hL : Inc L) (h : (L.map (·.key))[j]? = some k) : ∃ p, L[j]? = some p ∧ p.key = k ∧ getL k L = some p := by
  rw [List.getElem?_map] at h
  cases hp : L[j]? with
  | none => rw [hp] at h; cases h
  | some p =>
    rw [hp] at h
    injection h with h
    exact ⟨p, rfl, h, (getL_some hL.uniq).2 ⟨List.mem_of_getElem? hp, h⟩⟩
theorem keys_up {L : List Pl} {j : Nat} {a b : List UInt8} (hL : Inc L) (ha : (L.map (·.key))[j]? = some a) (hb : (L.map (·.key))[j + 1]? = some b) : (Op.bytesLess b a || b == a) = false := by
  have h1 : (L.map (·.key)).Pairwise (fun x y => bytesBefore x y = true) := List.pairwise_map.2 hL
  obtain ⟨la, ea⟩ := List.getElem?_eq_some_iff.1 ha
  obtain ⟨lb, eb⟩ := List.getElem?_eq_some_iff.1 hb
  have h2 := List.pairwise_iff_getElem.1 h1 j (j + 1) la lb (by omega)
  rw [ea, eb] at h2
  rw [kless, kbef_asymm h2]
  have : b ≠ a := fun e => by rw [e, kbef_irrefl] at h2; cases h2
  simpa using this
def anyK (l : Ks) (k : List UInt8) (i : Nat) : Bool := (l.take i).any fun x => x == k
theorem anyK_step {l : Ks} {k x : List UInt8} {i : Nat} (h : l[i]? = some x) : anyK l k (i + 1) = (anyK l k i || x == k) := by
  unfold anyK
  rw [List.take_add_one, h, List.any_append]
  simp
theorem any_some {L : List Pl} {k : List UInt8} {n : Nat} (h : L.length = n) : anyK (L.map (·.key)) k n = (getL k L).isSome := by
  unfold anyK
  rw [List.take_of_length_le (by rw [List.length_map]; omega), List.any_map]
  cases hg : getL k L with
  | none =>
    have h1 := getL_none.1 hg
    refine (Bool.eq_false_iff.2 fun h2 => ?_ : L.any _ = false)
    obtain ⟨p, hp, he⟩ := List.any_eq_true.1 h2
    exact h1 p hp (by simpa using he)
  | some p =>
    obtain ⟨h1, h2⟩ := getL_mem hg
    exact List.any_eq_true.2 ⟨p, h1, by simpa using h2⟩
set_option maxRecDepth 100000 in
set_option maxHeartbeats 8000000 in
theorem keysOrder_law (w : World) (A : Option Addr) (n c : Nat) (os : List O13) (hx : Ops13 w A n c os) :
    Calls Try.prog 5 #[.slice A n c] w fun e w' => e = .returned (.bool true) ∧ Below w.heap.size w w' := by
  have HO := Lib.hid hx
  clear hx
  go_enter Try.func5, Try.ntmps5
  go_wp2_with (fail)
  refine (head13_any w).mono ?_
  rintro e w1 ⟨rfl, hg1⟩
  have HG1 := Lib.hid hg1
  clear hg1
  go_wp2_with (fail)
  refine (new_in (B := w.heap.size) (out := fun _ => False) HG1.out HG1.out.size (fun k hk => hk.elim)).mono ?_
  rintro e w2 ⟨d, rfl, hk2, hg2⟩
  have H2 := Lib.hid hk2
  clear hk2 hg2
  have HGT := Lib.hid (great13_any A n c os w2 (HO.out.grow H2.out.low))
  go_wp2_with (fail)
  refine HGT.out.mono ?_
  rintro e w3 (⟨rfl, rfl⟩ | ⟨rfl, hn300, hsh, rfl⟩)
  · go_wp2_with (fail)
    go_ret
    exact ⟨rfl, H2.out.low⟩
  have HSH := Lib.hid hsh
  clear hsh
  go_wp2_with (fail)
  go_loopw [5] (fun vi wr => ∃ (i : Nat) (L : List Pl), i ≤ n ∧ vi = .int .i64 (i : Int) ∧ Hid (KsIn w.heap.size w wr d (fun _ => False) L ∧ L.length ≤ i)) (fun vi _ => n - (intOf vi).toNat)
  case atStart => exact ⟨0, [], Nat.zero_le _, rfl, Lib.hid ⟨H2.out, Nat.le_refl _⟩⟩
  case round =>
    obtain ⟨i, L, hi, rfl, HJ⟩ := hrel
    by_cases hlt : i < n
    · obtain ⟨ad, ⟨qw, ⟨q0, q1, q2, q3, q4⟩, qn⟩, rfl, ho, hbl, hok, hcs⟩ := Ops13.at (HO.out.grow HJ.out.1.low) hlt
      obtain ⟨c0, c1, c2, c3, c4, c5, c6⟩ := hcs wr (Grows.refl _)
      dsimp only at c0 c1 c2 c3 c4 c5 c6
      have k0 : (0 : Int) ≤ (i : Int) := by omega
      have k1 : (i : Int) < (n : Int) := by omega
      have HQK := Lib.hid (show q2.length < 9000 from HSH.out i _ hlt ho)
      clear ho hbl hok hcs
      by_cases h3 : qw = 3
      · have h3b : (qw == 3) = true := by simpa using h3
        clear h3
        have HCA := Lib.hid (show Calls Try.prog 13 #[.pointer (some ⟨d, 0, none⟩), .string ⟨q2.toArray⟩] wr fun e w' => e = .returned (plTo (getL q2 L)) ∧ KsIn w.heap.size w w' d (fun _ => False) (delL q2 L) ∧ KStays w.heap.size (fun _ => False) wr w' from del_at q2 HJ.out.1 (by show q2.length ≤ _; have := HQK.out; omega) (by have := HJ.out.2; omega) rfl rfl)
        go_wp2_with (fail)
        refine HCA.out.mono ?_
        rintro e w4 ⟨rfl, hk4, _⟩
        have H4 := Lib.hid hk4
        clear hk4 HCA c0 c1 c2 c3 c4 c5 c6
        go_wp2_with (fail)
        go_roundw
        case rel => exact ⟨i + 1, delL q2 L, by omega, by first | rfl | go_num, Lib.hid ⟨H4.out, klen_del q2 L HJ.out.2⟩⟩
        case measure => simp [intOf]; omega
      · have h3b : (qw == 3) = false := by simpa using h3
        clear h3
        have HCA := Lib.hid (show Calls Try.prog 20 #[.pointer (some ⟨d, 0, none⟩), .agg #[.int .i64 q0, .int .i64 q1, .string ⟨q2.toArray⟩, .int .i64 q3, .int .i64 q4]] wr fun e w' => e = .returned (plTo (getL q2 L)) ∧ KsIn w.heap.size w w' d (fun _ => False) (kputL ⟨q0, q1, q2, q3, q4⟩ L) ∧ KStays w.heap.size (fun _ => False) wr w' from put_at ⟨q0, q1, q2, q3, q4⟩ HJ.out.1 (by show q2.length ≤ _; have := HQK.out; omega) (by have := HJ.out.2; omega) rfl rfl)
        go_wp2_with (fail)
        refine HCA.out.mono ?_
        rintro e w4 ⟨rfl, hk4, _⟩
        have H4 := Lib.hid hk4
        clear hk4 HCA c0 c1 c2 c3 c4 c5 c6
        go_wp2_with (fail)
        go_roundw
        case rel => exact ⟨i + 1, kputL ⟨q0, q1, q2, q3, q4⟩ L, by omega, by first | rfl | go_num, Lib.hid ⟨H4.out, klen_put ⟨q0, q1, q2, q3, q4⟩ L HJ.out.2⟩⟩
        case measure => simp [intOf]; omega
    · have HN3 := Lib.hid hn300
      have HLI := Lib.hid (list_at HJ.out.1 (by have := HJ.out.2; omega) rfl)
      go_wp2_with (fail)
      refine HLI.out.mono ?_
      rintro e w5 ⟨AL, m, cl, rfl, ho5, hg5⟩
      have hml := OwnS.len ho5
      rw [List.length_map] at hml
      have HK5 := Lib.hid (And.intro (HJ.out.1.grow hg5) (show L.length = m ∧ m ≤ 300 from ⟨hml, by have := HJ.out.2; omega⟩))
      have hcap5 := OwnS.cap ho5
      have HOW := Lib.hid ho5
      have hm300 : m ≤ 300 := HK5.out.2.2
      clear ho5 hg5 hml HLI
      go_wp2_with (fail)
      go_loopw [7] (fun vi wr => ∃ (i : Nat), i ≤ m ∧ vi = .int .i64 (i : Int) ∧ Hid (Grows w5 wr)) (fun vi _ => m - (intOf vi).toNat)
      case atStart => exact ⟨0, Nat.zero_le _, rfl, Lib.hid (Grows.refl _)⟩
      case round =>
        obtain ⟨i, hi2, rfl, HG⟩ := hrel
        by_cases hlt2 : i < m
        · obtain ⟨ga, rfl⟩ : ∃ ga, AL = some ⟨ga, 0, none⟩ := by
            rcases HOW.out.2 with ⟨e, e2⟩ | ⟨g, cap, cur, e, _⟩
            · omega
            · injection e with e1 e2 e3; exact ⟨g, e1⟩
          have HCE := Lib.hid (show ∀ w', Grows w5 w' → ∀ (j : Nat) (k : List UInt8), (L.map (·.key))[j]? = some k → w'.cell? ⟨ga, j, none⟩ = some (.string ⟨k.toArray⟩) from fun w' hg j k hk => by
            have h1 := (owned_grow HOW.out hg).cells (g := ga) rfl j (kS k) (by rw [List.getElem?_map, hk]; rfl)
            rw [show (⟨ga, 0, none⟩ : Addr).add j = ⟨ga, j, none⟩ by unfold Addr.add; split <;> simp_all] at h1
            exact h1)
          obtain ⟨pk, hpk⟩ : ∃ k, (L.map (·.key))[i]? = some k := ⟨_, List.getElem?_eq_getElem (by rw [List.length_map]; have := HK5.out.2; omega)⟩
          obtain ⟨⟨p0, p1, p2, p3, p4⟩, hp1, hp2, hp3⟩ := keys_at HJ.out.1.inc hpk
          dsimp only at hp2
          subst hp2
          have HCI := Lib.hid hpk
          have HGL := Lib.hid hp3
          have HPK := Lib.hid (HJ.out.1.keys _ (List.mem_of_getElem? hp1))
          have cc := HCE.out wr HG.out i _ hpk
          have k0 : (0 : Int) ≤ (i : Int) := by omega
          have k1 : (i : Int) < (m : Int) := by omega
          have HI := Lib.hid (And.intro k0 k1)
          clear hp1 hp3 hpk
          cases i with
          | zero =>
            simp only [Int.natCast_zero] at *
            have HGE := Lib.hid (show Calls Try.prog 15 #[.pointer (some ⟨d, 0, none⟩), .string ⟨p2.toArray⟩] wr fun e w' => e = .returned (.tuple #[.agg #[.int .i64 p0, .int .i64 p1, .string ⟨p2.toArray⟩, .int .i64 p3, .int .i64 p4], .bool true]) ∧ Grows wr w' from get_at p2 (HK5.out.1.grow HG.out) (by have := HPK.out; omega) (by have := HK5.out.2; omega) (x := some ⟨p0, p1, p2, p3, p4⟩) HGL.out)
            go_wp2_with (fail)
            refine HGE.out.mono ?_
            rintro e w6 ⟨rfl, hg6⟩
            have hm7 := Whole.made w6 32 #[.int .i64 p0, .int .i64 p1, .string ⟨p2.toArray⟩, .int .i64 p3, .int .i64 p4]
            have hg7 := grows_alloc w6 (.cells #[.int .i64 p0, .int .i64 p1, .string ⟨p2.toArray⟩, .int .i64 p3, .int .i64 p4] 32)
            obtain ⟨W7, hW7⟩ : ∃ W, w6.alloc (.cells #[.int .i64 p0, .int .i64 p1, .string ⟨p2.toArray⟩, .int .i64 p3, .int .i64 p4] 32) = W := ⟨_, rfl⟩
            rw [hW7] at hm7 hg7
            obtain ⟨vb, hvb⟩ : ∃ b, w6.heap.size = b := ⟨_, rfl⟩
            rw [hvb] at hm7
            have HGW := Lib.hid (Grows.trans HG.out (Grows.trans hg6 hg7))
            have HR := Lib.hid (show ∀ w', Grows W7 w' → w'.cell? ⟨vb, 2, none⟩ = some (.string ⟨p2.toArray⟩) ∧ w'.cell? ⟨ga, 0, none⟩ = some (.string ⟨p2.toArray⟩) ∧ True ∧ True from fun w' hg => ⟨((hg.whole hm7).cell 2).trans rfl, HCE.out w' (Grows.trans HGW.out hg) _ _ HCI.out, trivial, trivial⟩)
            clear hg6 hm7 hg7 cc
            go_wp2_with (first | rw [hW7] | fail)
            clear hW7 hvb
            refine wp_region_facts (E := Grows) [valFact (.bool true), valFact (.bool false), valFact (.bool false), valFact (.pointer (some ⟨vb, 1, none⟩)), valFact (.pointer (some ⟨vb, 2, none⟩)), valFact (.string ⟨p2.toArray⟩), valFact (.slice (some ⟨ga, 0, none⟩) m cl), valFact (.int .i64 0), valFact (.pointer (some ⟨ga, 0, none⟩)), valFact (.string ⟨p2.toArray⟩), valFact (.bool false), valFact (.bool false), valFact (.bool false), valFact (.int .i64 0), valFact (.bool false), valFact (.bool false), valFact undef, valFact undef, valFact undef, valFact undef, valFact undef, valFact undef, valFact undef, valFact undef, valFact undef, valFact undef, valFact (.bool false), valFact (.bool false)] (by kernel_rfl) (by kernel_rfl) (fun _ _ _ => Grows.trans) (grows_drew _) ?_
            refine f_val (.bool true) (by rfl) ?_ ?_
            · intro w' hC; clear hC; go_simp
            simp only [Act.put, List.setIfInBounds_toArray, List.set_cons_zero, List.set_cons_succ]
            refine f_val (.bool false) (by rfl) ?_ ?_
            · intro w' hC; clear hC; go_simp
            simp only [Act.put, List.setIfInBounds_toArray, List.set_cons_zero, List.set_cons_succ]
            refine f_val (.bool false) (by rfl) ?_ ?_
            · intro w' hC; clear hC; go_simp
            simp only [Act.put, List.setIfInBounds_toArray, List.set_cons_zero, List.set_cons_succ]
            refine f_val (.pointer (some ⟨vb, 1, none⟩)) (by rfl) ?_ ?_
            · intro w' hC; clear hC; go_simp
            simp only [Act.put, List.setIfInBounds_toArray, List.set_cons_zero, List.set_cons_succ]
            refine f_val (.pointer (some ⟨vb, 2, none⟩)) (by rfl) ?_ ?_
            · intro w' hC; clear hC; go_simp
            simp only [Act.put, List.setIfInBounds_toArray, List.set_cons_zero, List.set_cons_succ]
            refine f_val (.string ⟨p2.toArray⟩) (by rfl) ?_ ?_
            · intro w' hC; obtain ⟨y0, y1, y2, y3⟩ := HR.out w' hC; clear hC; go_simp
            simp only [Act.put, List.setIfInBounds_toArray, List.set_cons_zero, List.set_cons_succ]
            refine f_val (.slice (some ⟨ga, 0, none⟩) m cl) (by rfl) ?_ ?_
            · intro w' hC; clear hC; go_simp
            simp only [Act.put, List.setIfInBounds_toArray, List.set_cons_zero, List.set_cons_succ]
            refine f_val (.int .i64 0) (by rfl) ?_ ?_
            · intro w' hC; clear hC; go_simp
            simp only [Act.put, List.setIfInBounds_toArray, List.set_cons_zero, List.set_cons_succ]
            refine f_val (.pointer (some ⟨ga, 0, none⟩)) (by rfl) ?_ ?_
            · intro w' hC; have y4 := HI.out.1; have y5 := HI.out.2; clear hC; go_simp
            simp only [Act.put, List.setIfInBounds_toArray, List.set_cons_zero, List.set_cons_succ]
            refine f_val (.string ⟨p2.toArray⟩) (by rfl) ?_ ?_
            · intro w' hC; obtain ⟨y0, y1, y2, y3⟩ := HR.out w' hC; clear hC; go_simp
            simp only [Act.put, List.setIfInBounds_toArray, List.set_cons_zero, List.set_cons_succ]
            refine f_val (.bool false) (by rfl) ?_ ?_
            · intro w' hC; clear hC; go_simp
            simp only [Act.put, List.setIfInBounds_toArray, List.set_cons_zero, List.set_cons_succ]
            refine f_val (.bool false) (by rfl) ?_ ?_
            · intro w' hC; clear hC; go_simp
            simp only [Act.put, List.setIfInBounds_toArray, List.set_cons_zero, List.set_cons_succ]
            refine f_val (.bool false) (by rfl) ?_ ?_
            · intro w' hC; clear hC; go_simp
            simp only [Act.put, List.setIfInBounds_toArray, List.set_cons_zero, List.set_cons_succ]
            refine f_val (.int .i64 0) (by rfl) ?_ ?_
            · intro w' hC; clear hC; go_simp
            simp only [Act.put, List.setIfInBounds_toArray, List.set_cons_zero, List.set_cons_succ]
            refine f_val (.bool false) (by rfl) ?_ ?_
            · intro w' hC; clear hC; go_simp
            simp only [Act.put, List.setIfInBounds_toArray, List.set_cons_zero, List.set_cons_succ]
            refine f_val (.bool false) (by rfl) ?_ ?_
            · intro w' hC; clear hC; go_simp
            simp only [Act.put, List.setIfInBounds_toArray, List.set_cons_zero, List.set_cons_succ]
            refine f_skip (by rfl) ?_
            simp only [Act.put, List.setIfInBounds_toArray, List.set_cons_zero, List.set_cons_succ]
            refine f_skip (by rfl) ?_
            simp only [Act.put, List.setIfInBounds_toArray, List.set_cons_zero, List.set_cons_succ]
            refine f_skip (by rfl) ?_
            simp only [Act.put, List.setIfInBounds_toArray, List.set_cons_zero, List.set_cons_succ]
            refine f_skip (by rfl) ?_
            simp only [Act.put, List.setIfInBounds_toArray, List.set_cons_zero, List.set_cons_succ]
            refine f_skip (by rfl) ?_
            simp only [Act.put, List.setIfInBounds_toArray, List.set_cons_zero, List.set_cons_succ]
            refine f_skip (by rfl) ?_
            simp only [Act.put, List.setIfInBounds_toArray, List.set_cons_zero, List.set_cons_succ]
            refine f_skip (by rfl) ?_
            simp only [Act.put, List.setIfInBounds_toArray, List.set_cons_zero, List.set_cons_succ]
            refine f_skip (by rfl) ?_
            simp only [Act.put, List.setIfInBounds_toArray, List.set_cons_zero, List.set_cons_succ]
            refine f_skip (by rfl) ?_
            simp only [Act.put, List.setIfInBounds_toArray, List.set_cons_zero, List.set_cons_succ]
            refine f_skip (by rfl) ?_
            simp only [Act.put, List.setIfInBounds_toArray, List.set_cons_zero, List.set_cons_succ]
            refine f_val (.bool false) (by rfl) ?_ ?_
            · intro w' hC; clear hC; go_simp
            simp only [Act.put, List.setIfInBounds_toArray, List.set_cons_zero, List.set_cons_succ]
            refine f_val (.bool false) (by rfl) ?_ ?_
            · intro w' hC; clear hC; go_simp
            simp only [Act.put, List.setIfInBounds_toArray, List.set_cons_zero, List.set_cons_succ]
            refine wpF_end ?_
            intro w8 hC hks
            have HCw8 := Lib.hid hC
            clear hC hks
            go_wp2_with (fail)
            go_roundw
            case rel => exact ⟨1, by omega, by first | rfl | go_num, Lib.hid (Grows.trans HGW.out HCw8.out)⟩
            case measure => simp [intOf]; omega
          | succ j =>
            obtain ⟨pv, hpv⟩ : ∃ k, (L.map (·.key))[j]? = some k := ⟨_, List.getElem?_eq_getElem (by rw [List.length_map]; have := HK5.out.2; omega)⟩
            have HCJ := Lib.hid hpv
            have HUP := Lib.hid (keys_up HJ.out.1.inc hpv HCI.out)
            obtain ⟨i, hie⟩ : ∃ i, j + 1 = i := ⟨_, rfl⟩
            rw [hie] at HCI HI k0 k1 cc hi2 hlt2 ⊢
            have HJW := Lib.hid (show (i : Int) - 1 = (j : Int) ∧ IntKind.i64.wrap (j : Int) = (j : Int) ∧ wrap64 (j : Int) = (j : Int) from ⟨by omega, wrapK (by omega) (by have := HK5.out.2; omega)⟩)
            have HIP := Lib.hid (show (0 : Int) < (i : Int) ∧ 0 < i from by omega)
            have HIJ := Lib.hid (show (0 : Int) ≤ (j : Int) ∧ (j : Int) < (m : Int) from by omega)
            clear hpv hie
            have HGE := Lib.hid (show Calls Try.prog 15 #[.pointer (some ⟨d, 0, none⟩), .string ⟨p2.toArray⟩] wr fun e w' => e = .returned (.tuple #[.agg #[.int .i64 p0, .int .i64 p1, .string ⟨p2.toArray⟩, .int .i64 p3, .int .i64 p4], .bool true]) ∧ Grows wr w' from get_at p2 (HK5.out.1.grow HG.out) (by have := HPK.out; omega) (by have := HK5.out.2; omega) (x := some ⟨p0, p1, p2, p3, p4⟩) HGL.out)
            go_wp2_with (fail)
            refine HGE.out.mono ?_
            rintro e w6 ⟨rfl, hg6⟩
            have hm7 := Whole.made w6 32 #[.int .i64 p0, .int .i64 p1, .string ⟨p2.toArray⟩, .int .i64 p3, .int .i64 p4]
            have hg7 := grows_alloc w6 (.cells #[.int .i64 p0, .int .i64 p1, .string ⟨p2.toArray⟩, .int .i64 p3, .int .i64 p4] 32)
            obtain ⟨W7, hW7⟩ : ∃ W, w6.alloc (.cells #[.int .i64 p0, .int .i64 p1, .string ⟨p2.toArray⟩, .int .i64 p3, .int .i64 p4] 32) = W := ⟨_, rfl⟩
            rw [hW7] at hm7 hg7
            obtain ⟨vb, hvb⟩ : ∃ b, w6.heap.size = b := ⟨_, rfl⟩
            rw [hvb] at hm7
            have HGW := Lib.hid (Grows.trans HG.out (Grows.trans hg6 hg7))
            have HR := Lib.hid (show ∀ w', Grows W7 w' → w'.cell? ⟨vb, 2, none⟩ = some (.string ⟨p2.toArray⟩) ∧ w'.cell? ⟨ga, i, none⟩ = some (.string ⟨p2.toArray⟩) ∧ w'.cell? ⟨ga, j, none⟩ = some (.string ⟨pv.toArray⟩) ∧ True from fun w' hg => ⟨((hg.whole hm7).cell 2).trans rfl, HCE.out w' (Grows.trans HGW.out hg) _ _ HCI.out, HCE.out w' (Grows.trans HGW.out hg) _ _ HCJ.out, trivial⟩)
            clear hg6 hm7 hg7 cc
            go_wp2_with (first | rw [hW7] | fail)
            clear hW7 hvb
            refine wp_region_facts (E := Grows) [valFact (.bool true), valFact (.bool false), valFact (.bool false), valFact (.pointer (some ⟨vb, 1, none⟩)), valFact (.pointer (some ⟨vb, 2, none⟩)), valFact (.string ⟨p2.toArray⟩), valFact (.slice (some ⟨ga, 0, none⟩) m cl), valFact (.int .i64 (i : Int)), valFact (.pointer (some ⟨ga, i, none⟩)), valFact (.string ⟨p2.toArray⟩), valFact (.bool false), valFact (.bool false), valFact (.bool false), valFact (.int .i64 (i : Int)), valFact (.bool true), valFact (.bool true), valFact (.slice (some ⟨ga, 0, none⟩) m cl), valFact (.int .i64 (i : Int)), valFact (.pointer (some ⟨ga, i, none⟩)), valFact (.string ⟨p2.toArray⟩), valFact (.slice (some ⟨ga, 0, none⟩) m cl), valFact (.int .i64 (i : Int)), valFact (.int .i64 (j : Int)), valFact (.pointer (some ⟨ga, j, none⟩)), valFact (.string ⟨pv.toArray⟩), valFact (.bool false), valFact (.bool false), valFact (.bool false)] (by kernel_rfl) (by kernel_rfl) (fun _ _ _ => Grows.trans) (grows_drew _) ?_
            refine f_val (.bool true) (by rfl) ?_ ?_
            · intro w' hC; clear hC; go_simp
            simp only [Act.put, List.setIfInBounds_toArray, List.set_cons_zero, List.set_cons_succ]
            refine f_val (.bool false) (by rfl) ?_ ?_
            · intro w' hC; clear hC; go_simp
            simp only [Act.put, List.setIfInBounds_toArray, List.set_cons_zero, List.set_cons_succ]
            refine f_val (.bool false) (by rfl) ?_ ?_
            · intro w' hC; clear hC; go_simp
            simp only [Act.put, List.setIfInBounds_toArray, List.set_cons_zero, List.set_cons_succ]
            refine f_val (.pointer (some ⟨vb, 1, none⟩)) (by rfl) ?_ ?_
            · intro w' hC; clear hC; go_simp
            simp only [Act.put, List.setIfInBounds_toArray, List.set_cons_zero, List.set_cons_succ]
            refine f_val (.pointer (some ⟨vb, 2, none⟩)) (by rfl) ?_ ?_
            · intro w' hC; clear hC; go_simp
            simp only [Act.put, List.setIfInBounds_toArray, List.set_cons_zero, List.set_cons_succ]
            refine f_val (.string ⟨p2.toArray⟩) (by rfl) ?_ ?_
            · intro w' hC; obtain ⟨y0, y1, y2, y3⟩ := HR.out w' hC; clear hC; go_simp
            simp only [Act.put, List.setIfInBounds_toArray, List.set_cons_zero, List.set_cons_succ]
            refine f_val (.slice (some ⟨ga, 0, none⟩) m cl) (by rfl) ?_ ?_
            · intro w' hC; clear hC; go_simp
            simp only [Act.put, List.setIfInBounds_toArray, List.set_cons_zero, List.set_cons_succ]
            refine f_val (.int .i64 (i : Int)) (by rfl) ?_ ?_
            · intro w' hC; clear hC; go_simp
            simp only [Act.put, List.setIfInBounds_toArray, List.set_cons_zero, List.set_cons_succ]
            refine f_val (.pointer (some ⟨ga, i, none⟩)) (by rfl) ?_ ?_
            · intro w' hC; have y4 := HI.out.1; have y5 := HI.out.2; clear hC; go_simp
            simp only [Act.put, List.setIfInBounds_toArray, List.set_cons_zero, List.set_cons_succ]
            refine f_val (.string ⟨p2.toArray⟩) (by rfl) ?_ ?_
            · intro w' hC; obtain ⟨y0, y1, y2, y3⟩ := HR.out w' hC; clear hC; go_simp
            simp only [Act.put, List.setIfInBounds_toArray, List.set_cons_zero, List.set_cons_succ]
            refine f_val (.bool false) (by rfl) ?_ ?_
            · intro w' hC; clear hC; go_simp
            simp only [Act.put, List.setIfInBounds_toArray, List.set_cons_zero, List.set_cons_succ]
            refine f_val (.bool false) (by rfl) ?_ ?_
            · intro w' hC; clear hC; go_simp
            simp only [Act.put, List.setIfInBounds_toArray, List.set_cons_zero, List.set_cons_succ]
            refine f_val (.bool false) (by rfl) ?_ ?_
            · intro w' hC; clear hC; go_simp
            simp only [Act.put, List.setIfInBounds_toArray, List.set_cons_zero, List.set_cons_succ]
            refine f_val (.int .i64 (i : Int)) (by rfl) ?_ ?_
            · intro w' hC; clear hC; go_simp
            simp only [Act.put, List.setIfInBounds_toArray, List.set_cons_zero, List.set_cons_succ]
            refine f_val (.bool true) (by rfl) ?_ ?_
            · intro w' hC; have y6 := HIP.out.1; have y7 := HIP.out.2; clear hC; go_simp
            simp only [Act.put, List.setIfInBounds_toArray, List.set_cons_zero, List.set_cons_succ]
            refine f_val (.bool true) (by rfl) ?_ ?_
            · intro w' hC; clear hC; go_simp
            simp only [Act.put, List.setIfInBounds_toArray, List.set_cons_zero, List.set_cons_succ]
            refine f_val (.slice (some ⟨ga, 0, none⟩) m cl) (by rfl) ?_ ?_
            · intro w' hC; clear hC; go_simp
            simp only [Act.put, List.setIfInBounds_toArray, List.set_cons_zero, List.set_cons_succ]
            refine f_val (.int .i64 (i : Int)) (by rfl) ?_ ?_
            · intro w' hC; clear hC; go_simp
            simp only [Act.put, List.setIfInBounds_toArray, List.set_cons_zero, List.set_cons_succ]
            refine f_val (.pointer (some ⟨ga, i, none⟩)) (by rfl) ?_ ?_
            · intro w' hC; have y4 := HI.out.1; have y5 := HI.out.2; clear hC; go_simp
            simp only [Act.put, List.setIfInBounds_toArray, List.set_cons_zero, List.set_cons_succ]
            refine f_val (.string ⟨p2.toArray⟩) (by rfl) ?_ ?_
            · intro w' hC; obtain ⟨y0, y1, y2, y3⟩ := HR.out w' hC; clear hC; go_simp
            simp only [Act.put, List.setIfInBounds_toArray, List.set_cons_zero, List.set_cons_succ]
            refine f_val (.slice (some ⟨ga, 0, none⟩) m cl) (by rfl) ?_ ?_
            · intro w' hC; clear hC; go_simp
            simp only [Act.put, List.setIfInBounds_toArray, List.set_cons_zero, List.set_cons_succ]
            refine f_val (.int .i64 (i : Int)) (by rfl) ?_ ?_
            · intro w' hC; clear hC; go_simp
            simp only [Act.put, List.setIfInBounds_toArray, List.set_cons_zero, List.set_cons_succ]
            refine f_val (.int .i64 (j : Int)) (by rfl) ?_ ?_
            · intro w' hC; have y4 := HJW.out.1; have y5 := HJW.out.2.1; have y6 := HJW.out.2.2; clear hC; go_simp
            simp only [Act.put, List.setIfInBounds_toArray, List.set_cons_zero, List.set_cons_succ]
            refine f_val (.pointer (some ⟨ga, j, none⟩)) (by rfl) ?_ ?_
            · intro w' hC; have y4 := HIJ.out.1; have y5 := HIJ.out.2; clear hC; go_simp
            simp only [Act.put, List.setIfInBounds_toArray, List.set_cons_zero, List.set_cons_succ]
            refine f_val (.string ⟨pv.toArray⟩) (by rfl) ?_ ?_
            · intro w' hC; obtain ⟨y0, y1, y2, y3⟩ := HR.out w' hC; clear hC; go_simp
            simp only [Act.put, List.setIfInBounds_toArray, List.set_cons_zero, List.set_cons_succ]
            refine f_val (.bool false) (by rfl) ?_ ?_
            · intro w' hC; have y4 := HUP.out; clear hC; go_simp
            simp only [Act.put, List.setIfInBounds_toArray, List.set_cons_zero, List.set_cons_succ]
            refine f_val (.bool false) (by rfl) ?_ ?_
            · intro w' hC; clear hC; go_simp
            simp only [Act.put, List.setIfInBounds_toArray, List.set_cons_zero, List.set_cons_succ]
            refine f_val (.bool false) (by rfl) ?_ ?_
            · intro w' hC; clear hC; go_simp
            simp only [Act.put, List.setIfInBounds_toArray, List.set_cons_zero, List.set_cons_succ]
            refine wpF_end ?_
            intro w8 hC hks
            have HCw8 := Lib.hid hC
            clear hC hks
            go_wp2_with (fail)
            go_roundw
            case rel => exact ⟨i + 1, by omega, by first | rfl | go_num, Lib.hid (Grows.trans HGW.out HCw8.out)⟩
            case measure => simp [intOf]; omega
        · have HG5 := Lib.hid HG.out
          go_wp2_with (fail)
          clear HG
          go_loopw [10] (fun vi wr => ∃ (i : Nat), i ≤ n ∧ vi = .int .i64 (i : Int) ∧ Hid (Grows w5 wr)) (fun vi _ => n - (intOf vi).toNat)
          case atStart => exact ⟨0, Nat.zero_le _, rfl, Lib.hid HG5.out⟩
          case round =>
            obtain ⟨i, hi3, rfl, HG⟩ := hrel
            by_cases hlt : i < n
            · obtain ⟨ad, ⟨qw, ⟨q0, q1, q2, q3, q4⟩, qn⟩, rfl, ho, hbl, hok, hcs⟩ := Ops13.at (HO.out.grow (HK5.out.1.grow HG.out).low) hlt
              obtain ⟨c0, c1, c2, c3, c4, c5, c6⟩ := hcs wr (Grows.refl _)
              dsimp only at c0 c1 c2 c3 c4 c5 c6
              have k0 : (0 : Int) ≤ (i : Int) := by omega
              have k1 : (i : Int) < (n : Int) := by omega
              have HQK := Lib.hid (show q2.length < 9000 from HSH.out i _ hlt ho)
              have HRQ := Lib.hid (show ∀ w', Grows wr w' → w'.cell? { block := (ad.add (i * 7)).block, off := (ad.add (i * 7)).off + 3 } = some (.string ⟨q2.toArray⟩) from fun w' hg => (hcs w' hg).2.2.2.1)
              have HII := Lib.hid (And.intro k0 k1)
              clear ho hbl hok hcs
              obtain ⟨x0, hx0⟩ : ∃ x, getL q2 L = x := ⟨_, rfl⟩
              obtain ⟨v, hv⟩ : ∃ v, x0.getD Pl.zero = v := ⟨_, rfl⟩
              obtain ⟨s, hs⟩ : ∃ s, x0.isSome = s := ⟨_, rfl⟩
              have hpl : plTo x0 = .tuple #[plV v, .bool s] := by unfold plTo; rw [hv, hs]
              obtain ⟨v0, v1, v2, v3, v4⟩ := v
              have HPL := Lib.hid (show plTo x0 = .tuple #[.agg #[.int .i64 v0, .int .i64 v1, .string ⟨v2.toArray⟩, .int .i64 v3, .int .i64 v4], .bool s] from hpl)
              have HSS := Lib.hid (show anyK (L.map (·.key)) q2 m = s from by rw [any_some HK5.out.2.1, hx0]; exact hs)
              have HGE := Lib.hid (show Calls Try.prog 15 #[.pointer (some ⟨d, 0, none⟩), .string ⟨q2.toArray⟩] wr fun e w' => e = .returned (.tuple #[.agg #[.int .i64 v0, .int .i64 v1, .string ⟨v2.toArray⟩, .int .i64 v3, .int .i64 v4], .bool s]) ∧ Grows wr w' from by
                rw [← HPL.out]
                exact get_at q2 (HK5.out.1.grow HG.out) (by have := HQK.out; omega) (by have := HK5.out.2; omega) hx0)
              clear hx0 hv hs hpl
              go_wp2_with (fail)
              refine HGE.out.mono ?_
              rintro e w6 ⟨rfl, hg6⟩
              have hg7 := grows_alloc w6 (.cells #[.int .i64 v0, .int .i64 v1, .string ⟨v2.toArray⟩, .int .i64 v3, .int .i64 v4] 32)
              obtain ⟨W7, hW7⟩ : ∃ W, w6.alloc (.cells #[.int .i64 v0, .int .i64 v1, .string ⟨v2.toArray⟩, .int .i64 v3, .int .i64 v4] 32) = W := ⟨_, rfl⟩
              rw [hW7] at hg7
              have HGW := Lib.hid (And.intro (Grows.trans HG.out (Grows.trans hg6 hg7)) (Grows.trans hg6 hg7))
              clear hg6 hg7 c0 c1 c2 c3 c4 c5 c6
              go_wp2_with (first | rw [hW7] | fail)
              clear hW7
              go_loopw [13, 14] (fun vt vk wr2 => ∃ (k : Nat) (t : Bool), k ≤ m ∧ vk = .int .i64 (k : Int) ∧ vt = .bool t ∧ Hid (anyK (L.map (·.key)) q2 k = t ∧ Grows W7 wr2)) (fun _ vk _ => m - (intOf vk).toNat)
              case atStart => exact ⟨0, false, Nat.zero_le _, rfl, rfl, Lib.hid ⟨rfl, Grows.refl _⟩⟩
              case round =>
                obtain ⟨k, t, hk, rfl, rfl, HT⟩ := hrel
                by_cases hkm : k < m
                · obtain ⟨x, hxk⟩ : ∃ k', (L.map (·.key))[k]? = some k' := ⟨_, List.getElem?_eq_getElem (by rw [List.length_map]; have := HK5.out.2; omega)⟩
                  have hst := anyK_step (k := q2) hxk
                  obtain ⟨ga, rfl⟩ : ∃ ga, AL = some ⟨ga, 0, none⟩ := by
                    rcases HOW.out.2 with ⟨e, e2⟩ | ⟨g, cap, cur, e, _⟩
                    · omega
                    · injection e with e1 e2 e3; exact ⟨g, e1⟩
                  have HRX := Lib.hid (show ∀ w', Grows wr w' → w'.cell? ⟨ga, k, none⟩ = some (.string ⟨x.toArray⟩) from fun w' hg => by
                    have h1 := (owned_grow HOW.out (Grows.trans (Grows.trans HGW.out.1 HT.out.2) hg)).cells (g := ga) rfl k (kS x) (by rw [List.getElem?_map, hxk]; rfl)
                    rw [show (⟨ga, 0, none⟩ : Addr).add k = ⟨ga, k, none⟩ by unfold Addr.add; split <;> simp_all] at h1
                    exact h1)
                  have HRQ2 := Lib.hid (show ∀ w', Grows wr w' → w'.cell? { block := (ad.add (i * 7)).block, off := (ad.add (i * 7)).off + 3 } = some (.string ⟨q2.toArray⟩) from fun w' hg => HRQ.out w' (Grows.trans (Grows.trans HGW.out.2 HT.out.2) hg))
                  have HRQ := HRQ2
                  have HKI := Lib.hid (show (0 : Int) ≤ (k : Int) ∧ (k : Int) < (m : Int) from by omega)
                  have HII := Lib.hid HII.out
                  have kk : (k : Int) < (m : Int) := by omega
                  cases t
                  · obtain ⟨r, hr⟩ : ∃ r, (x == q2) = r := ⟨_, rfl⟩
                    have HXR := Lib.hid ((key_eq x q2).trans hr)
                    have HXR2 := Lib.hid hr
                    have HST := Lib.hid hst
                    clear hr hst hxk
                    go_wp2_with (fail)
                    refine wp_region_facts (E := Grows) [valFact (.bool false), valFact (.bool false), valFact (.slice (some ⟨ga, 0, none⟩) m cl), valFact (.int .i64 (k : Int)), valFact (.pointer (some ⟨ga, k, none⟩)), valFact (.string ⟨x.toArray⟩), valFact (.slice (some ad) n c), valFact (.int .i64 (i : Int)), valFact (.pointer (some (ad.add (i * 7)))), valFact (.pointer (some { block := (ad.add (i * 7)).block, off := (ad.add (i * 7)).off + 1 })), valFact (.pointer (some { block := (ad.add (i * 7)).block, off := (ad.add (i * 7)).off + 2 })), valFact (.pointer (some { block := (ad.add (i * 7)).block, off := (ad.add (i * 7)).off + 3 })), valFact (.string ⟨q2.toArray⟩), valFact (.bool r), valFact (.bool r), valFact (.bool r)] (by kernel_rfl) (by kernel_rfl) (fun _ _ _ => Grows.trans) (grows_drew _) ?_
                    refine f_val (.bool false) (by rfl) ?_ ?_
                    · intro w' hC; clear hC; go_simp
                    simp only [Act.put, List.setIfInBounds_toArray, List.set_cons_zero, List.set_cons_succ]
                    refine f_val (.bool false) (by rfl) ?_ ?_
                    · intro w' hC; clear hC; go_simp
                    simp only [Act.put, List.setIfInBounds_toArray, List.set_cons_zero, List.set_cons_succ]
                    refine f_val (.slice (some ⟨ga, 0, none⟩) m cl) (by rfl) ?_ ?_
                    · intro w' hC; clear hC; go_simp
                    simp only [Act.put, List.setIfInBounds_toArray, List.set_cons_zero, List.set_cons_succ]
                    refine f_val (.int .i64 (k : Int)) (by rfl) ?_ ?_
                    · intro w' hC; clear hC; go_simp
                    simp only [Act.put, List.setIfInBounds_toArray, List.set_cons_zero, List.set_cons_succ]
                    refine f_val (.pointer (some ⟨ga, k, none⟩)) (by rfl) ?_ ?_
                    · intro w' hC; have y4 := HKI.out.1; have y5 := HKI.out.2; clear hC; go_simp
                    simp only [Act.put, List.setIfInBounds_toArray, List.set_cons_zero, List.set_cons_succ]
                    refine f_val (.string ⟨x.toArray⟩) (by rfl) ?_ ?_
                    · intro w' hC; have y0 := HRX.out w' hC; clear hC; go_simp
                    simp only [Act.put, List.setIfInBounds_toArray, List.set_cons_zero, List.set_cons_succ]
                    refine f_val (.slice (some ad) n c) (by rfl) ?_ ?_
                    · intro w' hC; clear hC; go_simp
                    simp only [Act.put, List.setIfInBounds_toArray, List.set_cons_zero, List.set_cons_succ]
                    refine f_val (.int .i64 (i : Int)) (by rfl) ?_ ?_
                    · intro w' hC; clear hC; go_simp
                    simp only [Act.put, List.setIfInBounds_toArray, List.set_cons_zero, List.set_cons_succ]
                    refine f_val (.pointer (some (ad.add (i * 7)))) (by rfl) ?_ ?_
                    · intro w' hC; have y4 := HII.out.1; have y5 := HII.out.2; clear hC; go_simp
                    simp only [Act.put, List.setIfInBounds_toArray, List.set_cons_zero, List.set_cons_succ]
                    refine f_val (.pointer (some { block := (ad.add (i * 7)).block, off := (ad.add (i * 7)).off + 1 })) (by rfl) ?_ ?_
                    · intro w' hC; clear hC; go_simp
                    simp only [Act.put, List.setIfInBounds_toArray, List.set_cons_zero, List.set_cons_succ]
                    refine f_val (.pointer (some { block := (ad.add (i * 7)).block, off := (ad.add (i * 7)).off + 2 })) (by rfl) ?_ ?_
                    · intro w' hC; clear hC; go_simp
                    simp only [Act.put, List.setIfInBounds_toArray, List.set_cons_zero, List.set_cons_succ]
                    refine f_val (.pointer (some { block := (ad.add (i * 7)).block, off := (ad.add (i * 7)).off + 3 })) (by rfl) ?_ ?_
                    · intro w' hC; clear hC; go_simp
                    simp only [Act.put, List.setIfInBounds_toArray, List.set_cons_zero, List.set_cons_succ]
                    refine f_val (.string ⟨q2.toArray⟩) (by rfl) ?_ ?_
                    · intro w' hC; have y0 := HRQ.out w' hC; clear hC; go_simp
                    simp only [Act.put, List.setIfInBounds_toArray, List.set_cons_zero, List.set_cons_succ]
                    refine f_val (.bool r) (by rfl) ?_ ?_
                    · intro w' hC; have y4 := HXR.out; have y5 := HXR2.out; clear hC; go_simp
                    simp only [Act.put, List.setIfInBounds_toArray, List.set_cons_zero, List.set_cons_succ]
                    refine f_val (.bool r) (by rfl) ?_ ?_
                    · intro w' hC; clear hC; go_simp
                    simp only [Act.put, List.setIfInBounds_toArray, List.set_cons_zero, List.set_cons_succ]
                    refine f_val (.bool r) (by rfl) ?_ ?_
                    · intro w' hC; clear hC; go_simp
                    simp only [Act.put, List.setIfInBounds_toArray, List.set_cons_zero, List.set_cons_succ]
                    refine wpF_end ?_
                    intro w9 hC hks
                    have HCw9 := Lib.hid hC
                    clear hC hks
                    go_wp2_with (fail)
                    go_roundw
                    case rel => exact ⟨k + 1, r, by omega, by first | rfl | go_num, rfl, Lib.hid ⟨by rw [HST.out, HT.out.1, HXR2.out]; rfl, Grows.trans HT.out.2 HCw9.out⟩⟩
                    case measure => simp [intOf]; omega
                  · have HST := Lib.hid hst
                    clear hst hxk
                    go_wp2_with (fail)
                    refine wp_region_facts (E := Grows) [valFact (.bool true), valFact (.bool true), valFact undef, valFact undef, valFact undef, valFact undef, valFact undef, valFact undef, valFact undef, valFact undef, valFact undef, valFact undef, valFact undef, valFact undef, valFact (.bool true), valFact (.bool true)] (by kernel_rfl) (by kernel_rfl) (fun _ _ _ => Grows.trans) (grows_drew _) ?_
                    refine f_val (.bool true) (by rfl) ?_ ?_
                    · intro w' hC; clear hC; go_simp
                    simp only [Act.put, List.setIfInBounds_toArray, List.set_cons_zero, List.set_cons_succ]
                    refine f_val (.bool true) (by rfl) ?_ ?_
                    · intro w' hC; clear hC; go_simp
                    simp only [Act.put, List.setIfInBounds_toArray, List.set_cons_zero, List.set_cons_succ]
                    refine f_skip (by rfl) ?_
                    simp only [Act.put, List.setIfInBounds_toArray, List.set_cons_zero, List.set_cons_succ]
                    refine f_skip (by rfl) ?_
                    simp only [Act.put, List.setIfInBounds_toArray, List.set_cons_zero, List.set_cons_succ]
                    refine f_skip (by rfl) ?_
                    simp only [Act.put, List.setIfInBounds_toArray, List.set_cons_zero, List.set_cons_succ]
                    refine f_skip (by rfl) ?_
                    simp only [Act.put, List.setIfInBounds_toArray, List.set_cons_zero, List.set_cons_succ]
                    refine f_skip (by rfl) ?_
                    simp only [Act.put, List.setIfInBounds_toArray, List.set_cons_zero, List.set_cons_succ]
                    refine f_skip (by rfl) ?_
                    simp only [Act.put, List.setIfInBounds_toArray, List.set_cons_zero, List.set_cons_succ]
                    refine f_skip (by rfl) ?_
                    simp only [Act.put, List.setIfInBounds_toArray, List.set_cons_zero, List.set_cons_succ]
                    refine f_skip (by rfl) ?_
                    simp only [Act.put, List.setIfInBounds_toArray, List.set_cons_zero, List.set_cons_succ]
                    refine f_skip (by rfl) ?_
                    simp only [Act.put, List.setIfInBounds_toArray, List.set_cons_zero, List.set_cons_succ]
                    refine f_skip (by rfl) ?_
                    simp only [Act.put, List.setIfInBounds_toArray, List.set_cons_zero, List.set_cons_succ]
                    refine f_skip (by rfl) ?_
                    simp only [Act.put, List.setIfInBounds_toArray, List.set_cons_zero, List.set_cons_succ]
                    refine f_skip (by rfl) ?_
                    simp only [Act.put, List.setIfInBounds_toArray, List.set_cons_zero, List.set_cons_succ]
                    refine f_val (.bool true) (by rfl) ?_ ?_
                    · intro w' hC; clear hC; go_simp
                    simp only [Act.put, List.setIfInBounds_toArray, List.set_cons_zero, List.set_cons_succ]
                    refine f_val (.bool true) (by rfl) ?_ ?_
                    · intro w' hC; clear hC; go_simp
                    simp only [Act.put, List.setIfInBounds_toArray, List.set_cons_zero, List.set_cons_succ]
                    refine wpF_end ?_
                    intro w9 hC hks
                    have HCw9 := Lib.hid hC
                    clear hC hks
                    go_wp2_with (fail)
                    go_roundw
                    case rel => exact ⟨k + 1, true, by omega, by first | rfl | go_num, rfl, Lib.hid ⟨by rw [HST.out, HT.out.1]; rfl, Grows.trans HT.out.2 HCw9.out⟩⟩
                    case measure => simp [intOf]; omega
                · obtain rfl : k = m := by omega
                  obtain rfl : t = s := HT.out.1.symm.trans HSS.out
                  have htt : (t != t) = false := by simp
                  go_wp2_with (fail)
                  go_roundw
                  case rel => exact ⟨i + 1, by omega, by first | rfl | go_num, Lib.hid (Grows.trans HGW.out.1 HT.out.2)⟩
                  case measure => simp [intOf]; omega
            · have HMA := Lib.hid (many_at (HK5.out.1.grow HG.out) (by have := HK5.out.2; omega) HK5.out.2.1)
              have hmm : ((m : Int) == (m : Int)) = true := by simp
              go_wp2_with (fail)
              refine HMA.out.mono ?_
              rintro e w6 ⟨rfl, rfl⟩
              go_wp2_with (fail)
              go_ret
              exact ⟨rfl, (HK5.out.1.grow HG.out).low⟩

set_option maxRecDepth 100000 in
theorem keysOrder_lifted (os : Os) (started : os.Started) (H : Type) (enc : TypeId × Value → H) :
    ReturnsInHanded {} Try.checked os 5 .any (Rows.keysOrderSpec.pre6 enc Try.prog Try.f5 Rows.keysOrderRow.domain false) (Rows.keysOrderSpec.post enc Try.prog Try.f5 false true false false) := by
  refine lift_law (C := Try.checked) H enc own started (by kernel_rfl) Try.func5
    (ChangeSpec.witness6 (enc := enc) (C := Try.checked) false ⟨#[], #[.slice none 0 0], []⟩ 16 (by kernel_rfl) (by kernel_rfl) (by kernel_rfl) (by kernel_rfl))
    laidOut (of_readable (by kernel_rfl)) rfl Try.underlying4 rfl (fun ds hd => ?_) (fun W base args ds p hval hA hsz => ?_)
  · match ds, hd with
    | [d1], _ => rfl
  · rw [Try.params5] at hA hval hsz
    obtain ⟨v0, vs0, d0, ds0, p0, q0, hargs, rfl, rfl, h0, r0⟩ := trodAll_cons hA
    obtain ⟨rfl, rfl, rfl⟩ := trodAll_nil r0
    obtain rfl : args = #[v0] := by cases args; simp_all
    obtain ⟨A0, n0, c0, xs0, rfl, hx0⟩ := open_ops13 (hval 0 22 v0 rfl rfl) h0
    exact keysOrder_law W A0 n0 c0 xs0 hx0

theorem keysOrder_over : Rows.keysOrderRow.holds Try.pinned (OpenSpec.ofChange Rows.keysOrderSpec) :=
  OpenClaim.holds_of_wide 5 Try.f5 rfl rfl rfl rfl rfl rfl rfl ⟨rfl, rfl, rfl, rfl, rfl⟩ rfl rfl rfl rfl rfl (by kernel_rfl) Try.func5 (by kernel_rfl)
    (of_decide_eq_true (by kernel_rfl)) (by unfold Func.isWrapper; first | (rw [if_pos (by decide +kernel)]; kernel_rfl) | (rw [if_neg (by decide +kernel)]; exact ⟨rfl, rfl⟩))
    (fun os started H enc _ => keysOrder_lifted os started H enc)
theorem keysOrder_holds : Rows.KeysOrderSaid := keysOrder_over
end Go.Proofs.Ytadgbobemmfjoaa