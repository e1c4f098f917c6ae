/-
  Statement NameTells: the name of any kind and number, what any name tells, and the segments of any names, are the document's answer. Every kind, number, text and list of texts, no condition.
-/
import Derived.Test.YtfopiifchcaciaaNmHead
import Derived.Test.YtfopiifchcaciaaNmRefSeg
import Derived.Test.YtfopiifchcaciaaNmIn
import Derived.ProofKit
import Derived.ChangeOld
namespace Go.Proofs.Ytfopiifchcaciaa
open Go.ChangeShapes Go.WideShapes Go.ChangeAt Go.RowKit
set_option linter.unusedSimpArgs false
set_option linter.unusedVariables false
section
open Go.ChangeMaps
variable {H : Type} {enc : TypeId × Value → H} {P : Program} {W : World} {base : Nat} {r : Reach}
theorem open_texts2 {t e : TypeId} {v : Value} {d : DataW H} {p : List MemPlace} (ht : P.underlying t = some (.slice e)) (he : P.underlying e = some .string) (hc : P.cellsOf e = 1)
    (hv : Value.okWide P W r base t v) (h : DataW.Trod enc P W 0 (fun _ => true) true t v d p) : ∃ A n c ls, v = .slice A n c ∧ Strs W A n c ls ∧ c ≤ 9223372036854775807 := by
  obtain ⟨A, n, c, rfl⟩ := okWide_slice ht hv
  obtain ⟨fuel, hf⟩ := h
  rcases open_strings ht he hc hf with ⟨hcs, _⟩ | ⟨x, l, c', ss, hcs, _, hl, hm, hz, hx, hcell, hwz⟩
  · simp [Value.cells] at hcs
    obtain ⟨rfl, rfl, rfl⟩ := hcs
    exact ⟨none, 0, 0, [], rfl, ⟨Row.nil _ _ _, Nat.le_refl _, fun _ => rfl, (fun s hs => by simp at hs)⟩, by omega⟩
  · simp [Value.cells] at hcs
    obtain ⟨rfl, rfl, rfl⟩ := hcs
    have hz' : ss.length = c := by simpa using hz
    refine ⟨some x, n, c, (ss.take n).map (fun s => s.data.toList), rfl, ⟨⟨?_, fun k v hk => ?_⟩, hl, (fun h => by cases h), fun s hs => ?_⟩, by unfold maxLen at hm; omega⟩
    · rw [List.length_map, List.length_map, List.length_take]
      omega
    · rw [List.map_map, List.getElem?_map, List.getElem?_take] at hk
      split at hk
      · rename_i hkn
        have hkz : k < ss.length := by omega
        rw [List.getElem?_eq_getElem hkz] at hk
        have hcl := hcell k hkz
        refine ⟨x, rfl, by have := World.block_lt_of_cell? W _ hcl; rwa [add_block] at this, ?_⟩
        have hv' : v = .string ss[k] := by
          simp only [Option.map_some, Function.comp, Option.some.injEq] at hk
          rw [← hk]
          simp [strV]
        rw [hcl, hv', List.getD_eq_getElem?_getD, List.getElem?_eq_getElem hkz]
        rfl
      · cases hk
    · obtain ⟨q, hq, rfl⟩ := List.mem_map.1 hs
      have := hwz q (List.mem_of_mem_take hq)
      have e : q.data.toList.length = q.size := Array.length_toList
      unfold maxLen at this
      omega
end
theorem lenQ (s : List UInt8) : (⟨s.toArray⟩ : ByteArray).size = s.length := by simp [ByteArray.size]
theorem sum_fit (z k : Nat) (h : z < 9000) (hk : k ≤ 9000) : IntKind.i64.wrap ((z : Int) + (k : Int)) = ((z + k : Nat) : Int) ∧ wrap64 ((z : Int) + (k : Int)) = ((z + k : Nat) : Int) := ⟨(IntWalk.i64_in _ (by omega)).trans (by omega), (IntWalk.wrap64_in _ (by omega)).trans (by omega)⟩
theorem min_one (z l k : Nat) (h : (k : Int) < (l : Int)) : (z : Int) + min (l : Int) (k : Int) = ((z + k : Nat) : Int) := by omega
theorem min_two (z l k : Nat) (h : (l : Int) ≤ (k : Int)) : (z : Int) + min (l : Int) (k : Int) = ((z + l : Nat) : Int) := by omega
theorem one_fit (j n : Nat) (h : j < n) (hn : n ≤ 9223372036854775807) : IntKind.i64.wrap ((j : Int) + 1) = ((j + 1 : Nat) : Int) := (IntWalk.i64_in _ (by omega)).trans (by omega)
set_option maxRecDepth 100000 in
set_option maxHeartbeats 8000000 in
theorem nameTells_law (w : World) (k n : Int) (s : List UInt8) (hs : s.length ≤ 9223372036854775807) (A : Option Addr) (N c : Nat) (ls : List (List UInt8)) (hx : Strs w A N c ls) (hc : c ≤ 9223372036854775807) :
    Calls Try.prog 3 #[.int .i64 k, .int .i64 n, .string ⟨s.toArray⟩, .slice A N c] w fun e w' => e = .returned (.bool true) ∧ Below w.heap.size w w' := by
  have HX := Lib.hid hx
  have HN : Hid (N ≤ 9223372036854775807) := Lib.hid (Nat.le_trans hx.cap hc)
  have HSL := Lib.hid hs
  have hsz := lenQ s
  clear hx hc hs
  go_enter Try.func3, Try.ntmps3
  go_wp2_with (fail)
  refine (head_any w).mono ?_
  rintro e w0 ⟨rfl, hb0⟩
  have HG0 := Lib.hid hb0
  clear hb0
  go_wp2_with (fail)
  go_loopw [10, 11] (fun z i wr => ∃ (z' j : Nat), j ≤ N ∧ z = .int .i64 (z' : Int) ∧ i = .int .i64 (j : Int) ∧ w0 = wr) (fun _ i _ => N - (intOf i).toNat)
  case atStart => exact ⟨s.length, 0, Nat.zero_le _, rfl, rfl, rfl⟩
  case round =>
    obtain ⟨z, j, hj, rfl, rfl, rfl⟩ := hrel
    by_cases hlt : j < N
    · by_cases hz : (z : Int) < 9000
      · obtain ⟨ad, l, rfl, hcell, hget, hll⟩ := (HX.out.grow HG0.out).get hlt
        have hlt' : (j : Int) < (N : Int) := Int.ofNat_lt.2 hlt
        have hlq := lenQ l
        have hjw := one_fit j N hlt HN.out
        by_cases hmn : (9000 : Int) < (l.length : Int)
        · obtain ⟨s1, s2⟩ := sum_fit z 9000 (by omega) (by omega)
          have s1' : IntKind.i64.wrap ((z : Int) + 9000) = ((z + 9000 : Nat) : Int) := s1
          have s2' : wrap64 ((z : Int) + 9000) = ((z + 9000 : Nat) : Int) := s2
          clear hget hll s1 s2
          go_wp2_with (fail)
          exact ⟨⟨z + 9000, j + 1, hlt, by first | exact congrArg (Value.int .i64) (min_one z l.length 9000 hmn) | (have := min_one z l.length 9000 hmn; simp_all), rfl, trivial⟩, by simp [intOf]; omega⟩
        · obtain ⟨s1, s2⟩ := sum_fit z l.length (by omega) (by omega)
          clear hget hll
          go_wp2_with (fail)
          all_goals exact ⟨⟨z + l.length, j + 1, hlt, by first | exact congrArg (Value.int .i64) (min_two z l.length 9000 (by first | exact hmn | exact Int.not_lt.1 hmn)) | (simp; omega), rfl, trivial⟩, by simp [intOf]; omega⟩
      · have hlt' : (j : Int) < (N : Int) := Int.ofNat_lt.2 hlt
        have hz2 : (9000 : Int) ≤ (z : Int) := Int.not_lt.1 hz
        go_wp2_with (first | (refine ⟨fun _ h => (by cases h), ?_⟩) | fail)
        go_ret
        exact ⟨rfl, HG0.out⟩
    · have hlt' : ¬ (j : Int) < (N : Int) := fun h => hlt (Int.ofNat_lt.1 h)
      by_cases hz : (9000 : Int) ≤ (z : Int)
      · go_wp2_with (fail)
        go_ret
        exact ⟨rfl, HG0.out⟩
      by_cases hbig : (300 : Int) < (N : Int)
      · go_wp2_with (fail)
        go_ret
        exact ⟨rfl, HG0.out⟩
      have HN3 := Lib.hid (show N ≤ 1000000 by omega)
      go_wp2_with (fail)
      refine (parse_any s HSL.out w0).mono ?_
      rintro e w1 ⟨rfl, hb1⟩
      have H1 := Lib.hid (Grows.trans HG0.out hb1)
      clear hb1
      unfold tripV
      obtain ⟨⟨a, b, is⟩, ht⟩ : ∃ t, trip (parseP s) = t := ⟨_, rfl⟩
      have HT := Lib.hid ht
      rw [ht]
      dsimp only
      clear ht
      go_wp2_with (fail)
      refine (ref_parse_any s HSL.out w1).mono ?_
      rintro e w2 ⟨rfl, hb2⟩
      have H2 := Lib.hid (Grows.trans H1.out hb2)
      clear hb2
      unfold tripV
      rw [HT.out]
      dsimp only
      go_wp2_with (fail)
      refine (of_any k n w2).mono ?_
      rintro e w3 ⟨rfl, hb3⟩
      have H3 := Lib.hid (Grows.trans H2.out hb3)
      clear hb3
      go_wp2_with (fail)
      refine (ref_of_any k n w3).mono ?_
      rintro e w4 ⟨rfl, hb4⟩
      have H4 := Lib.hid (Grows.trans H3.out hb4)
      clear hb4
      go_wp2_with (fail)
      refine (segs_any A N c ls w4 (HX.out.grow H4.out) HN3.out).mono ?_
      rintro e w5 ⟨A5, c5, rfl, ho5, hb5⟩
      have H5 := Lib.hid (And.intro ho5 (Grows.trans H4.out hb5))
      clear ho5 hb5
      go_wp2_with (fail)
      refine (ref_segs_any A N c ls w5 (HX.out.grow H5.out.2) HN3.out).mono ?_
      rintro e w6 ⟨A6, c6, rfl, ho6, hb6⟩
      have HR1 := Lib.hid (Row.owned (owned_grow H5.out.1 hb6))
      have HR2 := Lib.hid (Row.owned ho6)
      have H6 := Lib.hid (Grows.trans H5.out.2 hb6)
      clear ho6 hb6
      have hln : (setP (numsP ls)).length ≤ 1000000000000 := by
        have q1 := set_length (numsP ls)
        have q2 := nums_length ls
        have q3 := HX.out.len
        have q4 := HN3.out
        exact Nat.le_trans q1 (Nat.le_trans q2 (by rw [q3]; exact Nat.le_trans q4 (by decide)))
      obtain ⟨M, hM⟩ : ∃ M, (setP (numsP ls)).length = M := ⟨_, rfl⟩
      rw [hM] at HR1 HR2 hln
      rw [hM]
      have HM := Lib.hid hln
      clear hM hln
      go_wp2_with (fail)
      have hsame := same_ints A5 M c5 A6 M c6 (setP (numsP ls)) (setP (numsP ls)) w6 HR1.out HR2.out HM.out
      rw [decide_eq_true (rfl : setP (numsP ls) = setP (numsP ls))] at hsame
      refine hsame.mono ?_
      clear hsame
      rintro e w7 ⟨rfl, hb7⟩
      have H7 := Lib.hid (Grows.trans H6.out hb7)
      clear hb7
      go_wp2_with (fail)
      go_ret
      exact ⟨rfl, H7.out⟩

set_option maxRecDepth 100000 in
theorem nameTells_lifted (os : Os) (started : os.Started) (H : Type) (enc : TypeId × Value → H) :
    ReturnsInHanded {} Try.checked os 3 .any (Rows.nameTellsSpec.pre6 enc Try.prog Try.f3 Rows.nameTellsRow.domain false) (Rows.nameTellsSpec.post enc Try.prog Try.f3 false true false false) := by
  refine lift_law (C := Try.checked) H enc own started (by kernel_rfl) Try.func3
    (ChangeSpec.witness6 (enc := enc) (C := Try.checked) false ⟨#[], #[.int .i64 0, .int .i64 0, .string ⟨#[]⟩, .slice none 0 0], []⟩ 16 (by kernel_rfl) (by kernel_rfl) (by kernel_rfl) (by kernel_rfl))
    laidOut (of_readable (by kernel_rfl)) rfl Try.underlying4 rfl (fun ds hd => ?_) (fun W base args ds p hval hA hsz => ?_)
  · match ds, hd with
    | [d1, d2, d3, d4], _ => rfl
  · rw [Try.params3] at hA hval hsz
    obtain ⟨v0, vs0, d0, ds0, p0, q0, hargs, rfl, rfl, h0, r0⟩ := trodAll_cons hA
    obtain ⟨v1, vs1, d1, ds1, p1, q1, rfl, rfl, rfl, h1, r1⟩ := trodAll_cons r0
    obtain ⟨v2, vs2, d2, ds2, p2, q2, rfl, rfl, rfl, h2, r2⟩ := trodAll_cons r1
    obtain ⟨v3, vs3, d3, ds3, p3, q3, rfl, rfl, rfl, h3, r3⟩ := trodAll_cons r2
    obtain ⟨rfl, rfl, rfl⟩ := trodAll_nil r3
    obtain rfl : args = #[v0, v1, v2, v3] := by cases args; simp_all
    obtain ⟨a0, rfl, _, _, w0⟩ := open_int Try.underlying3 (hval 0 3 v0 rfl rfl) h0
    have b0 := bounds_i64 w0
    obtain ⟨a1, rfl, _, _, w1⟩ := open_int Try.underlying3 (hval 1 3 v1 rfl rfl) h1
    have b1 := bounds_i64 w1
    obtain ⟨l2, rfl, hl2⟩ := open_text Try.underlying9 (hval 2 9 v2 rfl rfl) h2
    obtain ⟨A3, n3, c3, xs3, rfl, hx3, hc3⟩ := open_texts2 Try.underlying22 Try.underlying9 (by kernel_rfl) (hval 3 22 v3 rfl rfl) h3
    exact nameTells_law W a0 a1 l2 hl2 A3 n3 c3 xs3 hx3 hc3

theorem nameTells_over : Rows.nameTellsRow.holds Try.pinned (OpenSpec.ofChange Rows.nameTellsSpec) :=
  OpenClaim.holds_of_wide 3 Try.f3 rfl rfl rfl rfl rfl rfl rfl ⟨rfl, rfl, rfl, rfl, rfl⟩ rfl rfl rfl rfl rfl (by kernel_rfl) Try.func3 (by kernel_rfl)
    (of_decide_eq_true (by kernel_rfl)) (by unfold Func.isWrapper; first | (rw [if_pos (by decide +kernel)]; kernel_rfl) | (rw [if_neg (by decide +kernel)]; exact ⟨rfl, rfl⟩))
    (fun os started H enc _ => nameTells_lifted os started H enc)
theorem nameTells_holds : Rows.NameTellsSaid := nameTells_over
end Go.Proofs.Ytfopiifchcaciaa
