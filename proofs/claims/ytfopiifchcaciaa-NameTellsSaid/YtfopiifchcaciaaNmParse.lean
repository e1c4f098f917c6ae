/-
  The walk of name's Parse.
-/
import Derived.Test.YtfopiifchcaciaaNmNum
import Derived.Test.YtfopiifchcaciaaShelf
namespace Go.Proofs.Ytfopiifchcaciaa
open Go.RowKit
set_option linter.unusedSimpArgs false
set_option linter.unusedVariables false

def kindP (c : UInt8) : Int := if c = 115 then 1 else if c = 104 then 2 else if c = 109 then 3 else if c = 116 then 4 else 0
theorem idx_kind (c : UInt8) : Lib.indexByte [115, 104, 109, 116] c = kindP c - 1 := by
  unfold kindP
  by_cases h1 : c = 115
  · subst h1; rfl
  by_cases h2 : c = 104
  · subst h2; rfl
  by_cases h3 : c = 109
  · subst h3; rfl
  by_cases h4 : c = 116
  · subst h4; rfl
  rw [if_neg h1, if_neg h2, if_neg h3, if_neg h4]
  have q1 : (115 == c) = false := by simpa using fun e => h1 e.symm
  have q2 : (104 == c) = false := by simpa using fun e => h2 e.symm
  have q3 : (109 == c) = false := by simpa using fun e => h3 e.symm
  have q4 : (116 == c) = false := by simpa using fun e => h4 e.symm
  simp [Lib.indexByte, q1, q2, q3, q4]
theorem idx_first (c : UInt8) (r : List UInt8) (x : Int) (h : x = (c.toNat : Int)) : Lib.indexByte (⟨#[115, 104, 109, 116]⟩ : ByteArray).data.toList x.toNat.toUInt8 = kindP c - 1 := by
  subst h
  rw [← idx_kind]
  congr 1
  simp
theorem idx_call (x : Int) (c : UInt8) (h : x = (c.toNat : Int)) (w : World) : Calls Try.prog 25 #[.string ⟨#[115, 104, 109, 116]⟩, .int .u8 x] w fun e w' => e = .returned (.int .i64 (kindP c - 1)) ∧ w = w' := by
  refine (strings_IndexByte _ _ _).mono ?_
  rintro e w1 ⟨rfl, hw⟩
  rw [idx_first c [] x h]
  exact ⟨rfl, hw.symm⟩
theorem str_rest (c : UInt8) (r : List UInt8) : (⟨(c :: r).toArray⟩ : ByteArray).extract 1 (r.length + 1) = ⟨r.toArray⟩ := by
  apply ByteArray.ext
  simp [ByteArray.data_extract]

def tripV (t : Int × Int × Bool) : Value := .tuple #[.int .i64 t.1, .int .i64 t.2.1, .bool t.2.2]
set_option maxRecDepth 100000 in
set_option maxHeartbeats 4000000 in
theorem parse_first (c : UInt8) (r : List UInt8) (hr : r.length ≤ 9223372036854775806) (k d : Int) (m : Int) (hk : kindP c = k) (hd : digitsP k = (d, m)) (hd8 : d = 8 ∨ d = 0) (T : Int × Int × Bool) (hT : T = if m < 0 ∨ (r.length : Int) ≠ d ∨ (numP r).2 = false then (0, 0, false) else (k, (numP r).1, true)) (w : World) :
    Calls Try.prog 10 #[.string ⟨(c :: r).toArray⟩] w fun e w' => e = .returned (tripV T) ∧ Grows w w' := by
  have hsz : (⟨(c :: r).toArray⟩ : ByteArray).size = r.length + 1 := by simp [ByteArray.size]
  have e1 : IntKind.i64.wrap (1 + (k - 1)) = k := by
    rw [show 1 + (k - 1) = k by omega]
    have : 0 ≤ k ∧ k ≤ 4 := by rw [← hk]; unfold kindP; repeat' split <;> omega
    exact IntWalk.i64_in _ ⟨by omega, by omega⟩
  have e2 : IntKind.i64.wrap (1 + d) = 1 + d := IntWalk.i64_in _ ⟨by omega, by omega⟩
  have e3 : wrap64 (1 + (k - 1)) = k := by rw [← IntWalk.i64_left]; exact e1
  have e4 : wrap64 (1 + d) = 1 + d := by rw [← IntWalk.i64_left]; exact e2
  have HK := Lib.hid hk
  have HD := Lib.hid hd
  have HD8 := Lib.hid hd8
  have HT := Lib.hid hT
  clear hk hd hd8 hT
  by_cases hm : m < 0
  · have hTT : T = (0, 0, false) := by rw [HT.out, if_pos (.inl hm)]
    rw [hTT]
    clear hTT
    go_enter Try.func10, Try.ntmps10
    go_wp2_with (fail)
    refine (idx_call _ c rfl _).mono ?_
    rintro e w1 ⟨rfl, rfl⟩
    rw [HK.out]
    go_wp2_with (fail)
    refine (digits_any k _).mono ?_
    rintro e w1 ⟨rfl, rfl⟩
    rw [HD.out]
    go_wp2_with (fail)
    go_ret3
    exact ⟨rfl, Grows.refl _⟩
  · by_cases hl : (r.length : Int) = d
    · have hl2 : ((r.length : Int) + 1 == 1 + d) = true := by rw [beq_iff_eq]; omega
      have hl3 : ((r.length : Int) + 1 != 1 + d) = false := by rw [bne, hl2]; rfl
      have hnum := number_any ⟨r.toArray⟩ (by rcases HD8.out with h | h <;> (simp [ByteArray.size]; omega)) w
      have hx := str_rest c r
      have HL := Lib.hid hl
      have HN := Lib.hid hnum
      have HX := Lib.hid hx
      clear hl hnum hx
      go_enter Try.func10, Try.ntmps10
      go_wp2_with (fail)
      refine (idx_call _ c rfl _).mono ?_
      rintro e w1 ⟨rfl, rfl⟩
      rw [HK.out]
      go_wp2_with (fail)
      refine (digits_any k _).mono ?_
      rintro e w1 ⟨rfl, rfl⟩
      rw [HD.out]
      go_wp2_with (fail)
      rw [HX.out]
      refine HN.out.mono ?_
      rintro e w2 ⟨rfl, hb⟩
      have HB := Lib.hid hb
      dsimp only
      obtain ⟨⟨nv, nb⟩, hnp⟩ : ∃ p, numP r = p := ⟨_, rfl⟩
      have HP := Lib.hid hnp
      rw [hnp]
      clear hb hnp
      cases nb with
      | true =>
        go_wp2_with (fail)
        go_ret3
        have hTT : T = (k, nv, true) := by rw [HT.out, HP.out, if_neg (by simp; exact ⟨by omega, HL.out⟩)]
        rw [hTT]
        exact ⟨rfl, HB.out⟩
      | false =>
        go_wp2_with (fail)
        go_ret3
        have hTT : T = (0, 0, false) := by rw [HT.out, HP.out, if_pos (.inr (.inr rfl))]
        rw [hTT]
        exact ⟨rfl, HB.out⟩
    · have hl2 : ((r.length : Int) + 1 == 1 + d) = false := by rw [beq_eq_false_iff_ne]; omega
      have hl3 : ((r.length : Int) + 1 != 1 + d) = true := by rw [bne, hl2]; rfl
      have hTT : T = (0, 0, false) := by rw [HT.out, if_pos (.inr (.inl hl))]
      rw [hTT]
      clear hl hTT
      go_enter Try.func10, Try.ntmps10
      go_wp2_with (fail)
      refine (idx_call _ c rfl _).mono ?_
      rintro e w1 ⟨rfl, rfl⟩
      rw [HK.out]
      go_wp2_with (fail)
      refine (digits_any k _).mono ?_
      rintro e w1 ⟨rfl, rfl⟩
      rw [HD.out]
      go_wp2_with (fail)
      go_ret3
      exact ⟨rfl, Grows.refl _⟩

theorem numP_nil : numP [] = (0, true) := rfl
theorem numP_val (r : List UInt8) : numP r = if r.all isDig = true then (((val 0 r : Nat) : Int), true) else (0, false) := rfl
theorem parse_any (l : List UInt8) (hl : l.length ≤ 9223372036854775807) (w : World) :
    Calls Try.prog 10 #[.string ⟨l.toArray⟩] w fun e w' => e = .returned (tripV (trip (parseP l))) ∧ Grows w w' := by
  match l with
  | [] =>
    go_enter Try.func10, Try.ntmps10
    go_wp2_with (fail)
    go_ret3
    exact ⟨rfl, Grows.refl _⟩
  | c :: r =>
    have hr : r.length ≤ 9223372036854775806 := by simpa using hl
    rw [parse_cons]
    by_cases h1 : c = 115
    · refine (parse_first c r hr 1 8 99999999 (by rw [h1]; rfl) rfl (.inl rfl) _ rfl w).mono fun e w' h => ?_
      rw [h.1]
      refine ⟨?_, h.2⟩
      congr 2
      by_cases h2 : r.length = 8 ∧ r.all isDig = true
      · rw [if_pos h2, if_pos h1, numP_val, if_pos h2.2, if_neg (by simp; omega)]
        rfl
      · rw [if_neg h2, if_pos]
        · split
          · rw [if_neg (by rw [h1]; decide), if_neg (by rw [h1]; decide)]
            rfl
          · rfl
        · right
          by_cases h3 : r.length = 8
          · right
            rw [numP_val, if_neg (fun h => h2 ⟨h3, h⟩)]
          · left
            omega
    by_cases h1b : c = 104
    · refine (parse_first c r hr 2 8 99999999 (by rw [h1b]; rfl) rfl (.inl rfl) _ rfl w).mono fun e w' h => ?_
      rw [h.1]
      refine ⟨?_, h.2⟩
      congr 2
      by_cases h2 : r.length = 8 ∧ r.all isDig = true
      · rw [if_pos h2, if_neg h1, if_pos h1b, numP_val, if_pos h2.2, if_neg (by simp; omega)]
        rfl
      · rw [if_neg h2, if_pos]
        · split
          · rw [if_neg (by rw [h1b]; decide), if_neg (by rw [h1b]; decide)]
            rfl
          · rfl
        · right
          by_cases h3 : r.length = 8
          · right
            rw [numP_val, if_neg (fun h => h2 ⟨h3, h⟩)]
          · left
            omega
    by_cases h4 : c = 109
    · refine (parse_first c r hr 3 0 0 (by rw [h4]; rfl) rfl (.inr rfl) _ rfl w).mono fun e w' h => ?_
      rw [h.1]
      refine ⟨?_, h.2⟩
      congr 2
      by_cases h2 : r = []
      · subst h2
        rw [if_neg (by rw [numP_nil]; simp), if_neg (by simp), if_pos rfl, if_pos h4, numP_nil]
        rfl
      · have : r.length ≠ 0 := fun e => h2 (List.eq_nil_of_length_eq_zero e)
        rw [if_pos (.inr (.inl (by omega))), if_neg h1, if_neg h1b, if_neg h2]
        split <;> rfl
    by_cases h5 : c = 116
    · refine (parse_first c r hr 4 0 0 (by rw [h5]; rfl) rfl (.inr rfl) _ rfl w).mono fun e w' h => ?_
      rw [h.1]
      refine ⟨?_, h.2⟩
      congr 2
      by_cases h2 : r = []
      · subst h2
        rw [if_neg (by rw [numP_nil]; simp), if_neg (by simp), if_pos rfl, if_neg h4, if_pos h5, numP_nil]
        rfl
      · have : r.length ≠ 0 := fun e => h2 (List.eq_nil_of_length_eq_zero e)
        rw [if_pos (.inr (.inl (by omega))), if_neg h1, if_neg h1b, if_neg h2]
        split <;> rfl
    refine (parse_first c r hr 0 0 (-1) (by unfold kindP; rw [if_neg h1, if_neg h1b, if_neg h4, if_neg h5]) rfl (.inr rfl) _ rfl w).mono fun e w' h => ?_
    rw [h.1]
    refine ⟨?_, h.2⟩
    congr 2
    rw [if_pos (.inl (by omega)), if_neg h1, if_neg h1b, if_neg h4, if_neg h5]
    repeat' split
    all_goals rfl
end Go.Proofs.Ytfopiifchcaciaa
