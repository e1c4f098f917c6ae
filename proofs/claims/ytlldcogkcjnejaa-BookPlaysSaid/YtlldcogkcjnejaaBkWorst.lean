/-
  book's Worst.
-/
import Derived.Test.YtlldcogkcjnejaaBkDown
namespace Go.Proofs.Ytlldcogkcjnejaa
open Go.RowKit Go.Shelf Go.Maps Go.Sort
set_option linter.unusedVariables false
set_option linter.unusedSimpArgs false

def segV (x : Us) : List Value := [.int .i64 x.seg]
theorem segV_len (x : Us) : (segV x).length = 1 := rfl
theorem segV_one (x : Us) : ∀ u ∈ segV x, u.oneCell' = true := by
  intro u hu
  simp only [segV, List.mem_cons, List.not_mem_nil, or_false] at hu
  subst hu
  rfl
theorem infoInt : (Try.prog.info? 3).map (fun i => (i.zero, i.size, i.bytes)) = some (some (.int .i64 0), 1, 8) := by kernel_rfl
def lenOf : Value → Nat
  | .slice _ n _ => n
  | _ => 0
theorem FitU.of {M N : Nat} {l : List Us} (h : UOk M N l) : ∀ x ∈ l, FitU x := fun x hx => by
  obtain ⟨_, _, h1, h2, h3⟩ := h.each x hx
  exact ⟨h1, h2, h3⟩
theorem isheap_nil : IsHeap ltU ([] : List Us).length [] := fun c _ h => by simp at h
theorem fieldU (a b c : Int) (w : World) : (Instr.field 34 (.agg #[.int .i64 a, .int .i64 b, .int .i64 c]) 0).run Try.prog w = .ok (.int .i64 a) w := by kernel_rfl
set_option maxRecDepth 100000 in
set_option maxHeartbeats 8000000 in
theorem worst_use {p b nn : Nat} {l : List Us} {w : World} (h : BkAt w p b nn l) (hnn : nn ≤ 100000) :
    Calls Try.prog 26 #[.pointer (some ⟨p, 0, none⟩)] w fun e w' => ∃ A c ws, e = .returned (.slice A ws.length c) ∧ Worst l ws ∧ w'.ownsRow w.heap.size 3 1 (.slice A ws.length c) ws.length (ws.flatMap segV) ∧ Grows w w' := by
  obtain ⟨W0, hW0⟩ : ∃ W, w.alloc (.cells #[] 34) = W := ⟨_, rfl⟩
  have g0 : Grows w W0 := hW0 ▸ grows_alloc _ _
  have s0 : W0.heap.size = w.heap.size + 1 := by rw [← hW0, World.size_alloc]
  have o0 : W0.ownsRow w.heap.size 34 3 (.slice (some ⟨w.heap.size, 0, none⟩) 0 0) 0 [] := by rw [← hW0]; exact World.ownsRow_lit w #[] 0 (Nat.le_refl _) (Nat.zero_le _) rfl
  obtain ⟨W1, hW1⟩ : ∃ W, W0.alloc (.cells #[.slice (some ⟨w.heap.size, 0, none⟩) 0 0] 65) = W := ⟨_, rfl⟩
  have g1 : Grows W0 W1 := hW1 ▸ grows_alloc _ _
  have s1 : W1.heap.size = w.heap.size + 2 := by rw [← hW1, World.size_alloc, s0]
  have b1 : Boxed W1 (w.heap.size + 1) 65 (.slice (some ⟨w.heap.size, 0, none⟩) 0 0) := by rw [← hW1, ← s0]; exact Boxed.new _ _ _
  have gw1 : Grows w W1 := Grows.trans g0 g1
  have hB1 := h.grow gw1
  have hp1 : HpK W1 w.heap.size (w.heap.size + 1) [] (fun k => w.heap.size ≤ k ∧ k ≠ w.heap.size + 2) :=
    ⟨some ⟨w.heap.size, 0, none⟩, 0, ⟨b1, owned_grow o0 g1, by simp [Value.ownBlock], fun x hx => (by cases hx), Nat.zero_le _, gw1.size⟩, ⟨by omega, by omega⟩, fun k hk => by simp [Value.ownBlock] at hk; omega⟩
  have hc1 := hB1.box.cell
  have hown := hB1.map
  have HH := Lib.hid (And.intro h (And.intro hnn (And.intro gw1 (And.intro s1 hp1))))
  have HS0 := Lib.hid s0
  have hs0e : W0.heap.size = w.heap.size + 1 := s0
  clear h hnn g0 s0 o0 g1 b1 gw1 hB1 hp1 s1
  go_enter Try.func26, Try.ntmps26
  go_wp2_with (first
    | rw [hW0]
    | rw [hW1]
    | (at_range; refine wpList_range_own _ rfl _ 50 rfl 3 34 (int_keyed Try.underlying3) Try.underlying50 _ b nn _ rfl hown ?_; intro w2 hrg2 hg2 hs2)
    | go_in)
  go_frame
  have HR2 := Lib.hid hrg2
  have HG2 := Lib.hid (show Grows W1 w2 ∧ w2.heap.size = W1.heap.size + 1 from ⟨⟨hg2.os, hg2.tape, hg2.output, hg2.size, fun k hk => hg2.block k hk (by simp)⟩, hs2⟩)
  have HS1 := Lib.hid (show W1.heap.size = w.heap.size + 2 from HH.out.2.2.2.1)
  obtain ⟨K, hKd⟩ : ∃ K : Nat → Prop, K = fun k => w.heap.size ≤ k ∧ k ≠ w.heap.size + 2 := ⟨_, rfl⟩
  have HK := Lib.hid (show (∀ k, K k → w.heap.size ≤ k ∧ k ≠ W1.heap.size) ∧ (∀ k, W1.heap.size < k → K k) ∧ K (w.heap.size + 1) from by
    rw [hKd, HS1.out]
    exact ⟨fun k hk => hk, fun k hk => ⟨by omega, by omega⟩, ⟨by omega, by omega⟩⟩)
  have HP0 := Lib.hid (show HpK w2 w.heap.size (w.heap.size + 1) [] K from by
    rw [hKd]
    exact HH.out.2.2.2.2.grow HG2.out.1)
  clear hrg2 hg2 hs2 hown hc1 hW0 hW1 hs0e hKd
  go_loopw [5] (fun _ wr => ∃ (left : Lit → Bool) (cnt : Nat) (pre m : List Us), Hid (RangesU wr b W1.heap.size nn l left cnt) ∧ Hid (CollectedI (encU (H := Unit) l) left (pre.map (·.seg))) ∧ Hid (∀ x ∈ pre, x ∈ l) ∧ Hid (HpK wr w.heap.size (w.heap.size + 1) m K ∧ IsHeap ltU m.length m ∧ m.Perm pre) ∧ Hid (Grows w wr ∧ W1.heap.size < wr.heap.size))
    (fun _ wr => wr.rangeLeft b W1.heap.size)
  case atStart =>
    exact ⟨_, _, [], [], HR2, Lib.hid (CollectedI.start (encU l)), Lib.hid (fun x hx => by cases hx), Lib.hid ⟨HP0.out, isheap_nil, List.Perm.refl _⟩, Lib.hid ⟨Grows.trans HH.out.2.2.1 HG2.out.1, by rw [HG2.out.2]; omega⟩⟩
  case round =>
    obtain ⟨left, cnt, pre, m, HRG, HC, HM, HQ, HG⟩ := hrel
    have hrg := HRG.out
    go_wp2_with (first
      | (at_next; refine wpList_next_ranges _ rfl _ rfl 3 (int_keyed Try.underlying3) (usR (H := Unit)) encZ usV (fun key kl hk => by obtain ⟨x, hx, _⟩ := Maps.keyOf_i64 Try.underlying3 hk; exact ⟨x, hx⟩) (fun v y hv => by obtain ⟨c, hc, _⟩ := usR_inv hv; exact ⟨c, hc⟩) b W1.heap.size nn _ _ _ rfl hrg ?_ ?_)
      | go_in)
    · intro hc0 hl0
      have hperm := all_there HH.out.1.ok.rise HRG.out HC.out HM.out hl0
      have HF := Lib.hid (show m.Perm l from HQ.out.2.2.trans hperm)
      obtain ⟨A, c, hq1, hq2, hq3⟩ := HQ.out.1
      have hb0 := hq1.box
      have HZ := Lib.hid (show HpK wr w.heap.size (w.heap.size + 1) m (fun k => k = w.heap.size + 1 ∨ (Value.slice A m.length c).ownBlock = some k) from ⟨A, c, hq1, .inl rfl, fun k hk => .inr hk⟩)
      have HZ2 := Lib.hid (show ∀ k, k = w.heap.size + 1 ∨ (Value.slice A m.length c).ownBlock = some k → w.heap.size ≤ k ∧ k < wr.heap.size from fun k hk => by
        rcases hk with rfl | hk
        · exact ⟨by omega, hb0.lt⟩
        · exact ⟨(HK.out.1 k (hq3 k hk)).1, (owned_lt3 hq1.own hk).2⟩)
      obtain ⟨K2, hK2⟩ : ∃ K2 : Nat → Prop, K2 = fun k => k = w.heap.size + 1 ∨ (Value.slice A m.length c).ownBlock = some k := ⟨_, rfl⟩
      have HZ3 := Lib.hid (show HpK wr w.heap.size (w.heap.size + 1) m K2 ∧ ∀ k, K2 k → w.heap.size ≤ k ∧ k < wr.heap.size from by rw [hK2]; exact ⟨HZ.out, HZ2.out⟩)
      obtain ⟨i0, hi0, hz0, hz1, hz2⟩ := info_of infoInt
      have HI := Lib.hid (And.intro hi0 (And.intro hz0 (And.intro hz1 hz2)))
      clear hl0 hperm hq1 hq2 hq3 hb0 hK2 hi0 hz0 hz1 hz2 hrg hc0
      have hN2 : w.heap.size ≤ wr.heap.size := HG.out.1.size
      obtain ⟨N2, hN⟩ : ∃ N, wr.heap.size = N := ⟨_, rfl⟩
      rw [hN] at HZ3 hN2
      have HN2 := Lib.hid (And.intro hN2 hN)
      have HS := Lib.hid (show HpK wr w.heap.size (w.heap.size + 1) m K2 ∧ IsHeap ltU m.length m ∧ Grows w wr from ⟨HZ3.out.1, HQ.out.2.1, HG.out.1⟩)
      have HKK := Lib.hid HZ3.out.2
      clear hN2 hN
      go_wp2_with (fail)
      clear HZ HZ2 HZ3 HQ HG HRG HC HM HP0 HR2 HG2
      go_loopw [6] (fun a wr => ∃ (m2 ws : List Us) (A : Option Addr) (c : Nat), a = .slice A ws.length c ∧ Hid (HpK wr w.heap.size (w.heap.size + 1) m2 K2 ∧ IsHeap ltU m2.length m2 ∧ (ws ++ m2).Perm l ∧ (ws.Pairwise fun x y => ltU y x = false) ∧ ∀ y ∈ m2, ∀ x ∈ ws, ltU y x = false) ∧ Hid (wr.ownsRow N2 3 1 (.slice A ws.length c) ws.length (ws.flatMap segV)) ∧ Hid (Grows w wr ∧ N2 ≤ wr.heap.size)) (fun a _ => l.length - lenOf a)
      case atStart => exact ⟨m, [], none, 0, rfl, Lib.hid ⟨HS.out.1, HS.out.2.1, HF.out, List.Pairwise.nil, fun _ _ _ h => by cases h⟩, Lib.hid (World.ownsRow_nil _ _ _ _), Lib.hid ⟨HS.out.2.2, by rw [HN2.out.2]; omega⟩⟩
      case round =>
        obtain ⟨m2, ws, A2, d2, rfl, HQ, HO, HG⟩ := hrel
        obtain ⟨A1, d1, hq1, hq2, hq3⟩ := HQ.out.1
        have hcell := hq1.box.cell
        obtain ⟨n, hn⟩ : ∃ n, m2.length = n := ⟨_, rfl⟩
        obtain ⟨k, hk⟩ : ∃ k, ws.length = k := ⟨_, rfl⟩
        have hkl : k + n = l.length := by rw [← hn, ← hk, ← List.length_append, HQ.out.2.2.1.length_eq]
        have hfew := HH.out.1.ok.few
        have hnn2 := HH.out.2.1
        rw [hn] at hcell
        rw [hk] at HO
        have HX := Lib.hid (show m2.length = n ∧ ws.length = k ∧ k + n = l.length ∧ l.length ≤ 100000 from ⟨hn, hk, hkl, by omega⟩)
        rw [hk]
        have HLN := Lib.hid (fun w => len_heap A1 n d1 w)
        clear hq1 hq2 hq3 hn hk hkl hfew hnn2
        by_cases hz : n = 0
        · subst hz
          have HE := Lib.hid (show m2 = [] from List.eq_nil_of_length_eq_zero HX.out.1)
          go_wp2_with (fail)
          refine (HLN.out wr).mono ?_
          rintro e w6 ⟨rfl, hw6⟩
          subst hw6
          go_wp2_with (fail)
          go_ret
          have hpm := HQ.out.2.2.1
          rw [HE.out, List.append_nil] at hpm
          have ho := HO.out
          rw [← HX.out.2.1] at ho
          exact ⟨A2, d2, ws, by rw [HX.out.2.1]; rfl, ⟨hpm, HQ.out.2.2.2.1⟩, owned_from ho HN2.out.1, HG.out.1⟩
        · have hpos : (0 : Int) < (n : Int) := by omega
          have HPOP := Lib.hid (hpop_any HQ.out.1 (by have := HX.out; omega) HQ.out.2.1)
          go_wp2_with (fail)
          refine (HLN.out wr).mono ?_
          rintro e w6 ⟨rfl, hw6⟩
          subst hw6
          go_wp2_with (fail)
          refine HPOP.out.mono ?_
          rintro e w7 ⟨x, m3, rfl, h1, h2, h3, h4, h5⟩
          have hta := assertU x.seg x.all x.live w7
          have hfi := fieldU x.seg x.all x.live w7
          have H7 := Lib.hid (And.intro h1 (And.intro h2 (And.intro h3 (And.intro h4 h5))))
          have hoff : ∀ q, N2 ≤ q → ¬ K2 q := fun q hq hk => by have := (HKK.out q hk).2; omega
          have ho7 : w7.ownsRow N2 3 1 (.slice A2 k d2) k (ws.flatMap segV) := owned_same3 HO.out fun q hq => h5.same q (owned_lt3 HO.out hq).2 (hoff q (owned_lt3 HO.out hq).1)
          have hg7 : Grows w w7 := ((Spares.grows (own := K2) HG.out.1).trans h5).below (Nat.le_refl _) fun q hq hk => by have := (HKK.out q hk).1; omega
          have HO7 := Lib.hid (show w7.ownsRow N2 3 1 (.slice A2 k d2) k (ws.flatMap segV) ∧ Grows w w7 ∧ N2 ≤ w7.heap.size from ⟨ho7, hg7, Nat.le_trans HG.out.2 h5.size⟩)
          obtain ⟨x0, x1, x2⟩ := x
          dsimp only [usV] at hta hfi
          dsimp only [usV]
          obtain ⟨W8, hW8⟩ : ∃ W, w7.alloc (.cells #[.int .i64 x0] 3) = W := ⟨_, rfl⟩
          have hg8 : Grows w7 W8 := hW8 ▸ grows_alloc _ _
          have hm8 : Whole W8 w7.heap.size 3 #[.int .i64 x0] := by rw [← hW8]; exact Whole.made _ _ _
          have H8 := Lib.hid (And.intro hg8 hm8)
          clear h1 h2 h3 h4 h5 hoff ho7 hg7 hg8 hm8 hcell
          go_wp2_with (first
            | rw [hW8]
            | (at_builtin
               refine list_append_at rfl (.tmp 28) (.tmp 34) 43 rfl N2 3 i0 (.int .i64 0) 1 8 Try.underlying43 HI.out.1 HI.out.2.1 HI.out.2.2.1 HI.out.2.2.2 rfl (by omega)
                 rfl (owned_grow HO7.out.1 H8.out.1) (A := some ⟨w7.heap.size, 0, none⟩) (m := 1) (c := 1) rfl (Rs.lit segV_len H8.out.2 [(⟨x0, x1, x2⟩ : Us)] rfl (n := 1) rfl).row (fun h => by cases h) (fun u hu => segV_one ⟨x0, x1, x2⟩ u (by simpa using hu)) (k + 1) rfl (by have := HX.out; unfold maxLen; omega) (by have := HX.out; omega) (by have := HO7.out.2.2; have := H8.out.1.size; omega) ?_
               intro A9 c9 w9 ho9 hg9 hd9
               have H9 := Lib.hid (And.intro ho9 (And.intro hg9 hd9))
               clear ho9 hg9 hd9)
            | fail)
          obtain ⟨ho9, hg9, hd9⟩ := H9.out
          obtain ⟨h1, h2, h3, h4, h5⟩ := H7.out
          have hs9 : Spares (fun q => N2 ≤ q) w7 w9 := (Spares.grows H8.out.1).grown hg9 fun q hq => (owned_lt3 HO7.out.1 hq).1
          have hk9 : HpK w9 w.heap.size (w.heap.size + 1) m3 K2 := h4.off hs9 fun q _ hk hq => by have := (HKK.out q hk).2; omega
          have hgw9 : Grows w w9 := ((Spares.grows (own := fun q => N2 ≤ q) HO7.out.2.1).trans hs9).below (Nat.le_refl _) fun q hq hk => by have := HN2.out.1; omega
          have hl9 : (ws ++ [(⟨x0, x1, x2⟩ : Us)]).length = k + 1 := by rw [List.length_append, HX.out.2.1]; rfl
          have hmem : ∀ y, y ∈ m3 → y ∈ m2 := fun y hy => h1.mem_iff.2 (List.mem_cons_of_mem _ hy)
          have hxm : (⟨x0, x1, x2⟩ : Us) ∈ m2 := h1.mem_iff.2 List.mem_cons_self
          have hpw : (ws ++ [(⟨x0, x1, x2⟩ : Us)]).Pairwise fun x y => ltU y x = false := List.pairwise_append.2 ⟨HQ.out.2.2.2.1, List.pairwise_singleton _ _, fun a ha b hb => by rw [List.mem_singleton.1 hb]; exact HQ.out.2.2.2.2 _ hxm a ha⟩
          have hpe : (ws ++ [(⟨x0, x1, x2⟩ : Us)] ++ m3).Perm l := by
            rw [List.append_assoc]
            exact ((List.Perm.append_left ws h1).symm).trans HQ.out.2.2.1
          have hall : ∀ y ∈ m3, ∀ x ∈ ws ++ [(⟨x0, x1, x2⟩ : Us)], ltU y x = false := fun y hy x hx => by
            rcases List.mem_append.1 hx with hx | hx
            · exact HQ.out.2.2.2.2 y (hmem y hy) x hx
            · rw [List.mem_singleton.1 hx]; exact h3 y hy
          have hrow : w9.ownsRow N2 3 1 (.slice A9 (ws ++ [(⟨x0, x1, x2⟩ : Us)]).length c9) (ws ++ [(⟨x0, x1, x2⟩ : Us)]).length ((ws ++ [(⟨x0, x1, x2⟩ : Us)]).flatMap segV) := by
            rw [hl9, flat_snoc]
            simpa using ho9
          have hkn : k < l.length := by have := HX.out; omega
          go_roundw
          case rel => exact ⟨m3, ws ++ [⟨x0, x1, x2⟩], A9, c9, by rw [hl9], Lib.hid ⟨hk9, h2, hpe, hpw, hall⟩, Lib.hid hrow, Lib.hid ⟨hgw9, Nat.le_trans HO7.out.2.2 hs9.size⟩⟩
          case measure =>
            have := HX.out.2.1
            simp [lenOf]
            omega
    · intro x c kl yd yp w3 cnt3 hkey hlk hv hat hrg3 hlt3 hg3 hs3 hen
      obtain ⟨rfl, hmem, hseg, hat'⟩ := entryU (y := (yd, yp)) hkey hv hat
      have HC2 := Lib.hid (show CollectedI (encU (H := Unit) l) (fun z => left z && !z.sameKey (.int .i64 x)) ((pre ++ [c]).map (·.seg)) by
        have := HC.out.step hlk hat'
        rw [List.map_append, List.map_cons, List.map_nil, hseg]
        exact this)
      have HM2 := Lib.hid (show ∀ z ∈ pre ++ [c], z ∈ l from fun z hz => by
        rcases List.mem_append.1 hz with h | h
        · exact HM.out z h
        · rw [List.mem_singleton.1 h]; exact hmem)
      obtain ⟨q, hq⟩ := part_perm HH.out.1.ok.rise HC2.out.1 HM2.out
      have hlen : m.length < 1000000 := by
        have h1 := HQ.out.2.2.length_eq
        have h2 := hq.length_eq
        have h3 := HH.out.1.ok.few
        have h4 := HH.out.2.1
        simp only [List.length_append, List.length_singleton] at h2
        omega
      have hfit := FitU.of HH.out.1.ok c hmem
      have HRG3 := Lib.hid hrg3
      have HLT3 := Lib.hid hlt3
      have hs3' : Spares (fun k => k = W1.heap.size) wr w3 := (Spares.refl _ wr).grown hg3 (fun k hk => by cases hk; rfl)
      have hp3 : HpK w3 w.heap.size (w.heap.size + 1) m K := HQ.out.1.off hs3' fun k _ hk e => (HK.out.1 k hk).2 e
      have hg3' : Grows w w3 := (((Spares.grows HG.out.1).trans hs3' : Spares (fun k => k = W1.heap.size) w w3)).below (Nat.le_refl _) fun k hk e => by have := HS1.out; omega
      obtain ⟨c0, c1, c2⟩ := c
      obtain ⟨W4, hW4⟩ : ∃ W, w3.alloc (.cells #[.int .i64 c0, .int .i64 c1, .int .i64 c2] 34) = W := ⟨_, rfl⟩
      have hg4 : Grows w3 W4 := hW4 ▸ grows_alloc _ _
      have hm4 : Whole W4 w3.heap.size 34 #[.int .i64 c0, .int .i64 c1, .int .i64 c2] := by rw [← hW4]; exact Whole.made _ _ _
      have d0 := hm4.cell 0
      have d1 := hm4.cell 1
      have d2 := hm4.cell 2
      simp only [List.getElem?_toArray, List.getElem?_cons_zero, List.getElem?_cons_succ] at d0 d1 d2
      have hsz4 : W1.heap.size < W4.heap.size := by have := HG.out.2; have := hg4.size; omega
      have HPU := Lib.hid (hpush_any (hp3.grow hg4) (fun k hk => HK.out.2.1 k (by omega)) ⟨c0, c1, c2⟩ hfit hlen HQ.out.2.1)
      have HG4 := Lib.hid (And.intro hg3' (And.intro hg4 (And.intro hs3 hsz4)))
      clear hmem hseg hat hat' hq hlen hfit hrg3 hlt3 hg3 hs3 hs3' hp3 hg3' hg4 hm4 hsz4 hkey hlk hv hrg
      dsimp only [usV] at hen HPU
      dsimp only [usV]
      go_wp2_with (first | rw [hW4] | fail)
      clear hW4 hen d0 d1 d2
      refine HPU.out.mono ?_
      rintro e w5 ⟨rfl, m', h1, h2, h3, h4⟩
      have H5 := Lib.hid (And.intro h1 (And.intro h2 (And.intro h3 h4)))
      clear h1 h2 h3 h4
      go_wp2_with (fail)
      have hsp := H5.out.2.2.2
      have hbl : b < w3.heap.size := by have := HH.out.1.ltb; have := HG4.out.1.size; omega
      have hblw := HH.out.1.ltb
      have hrl : W1.heap.size < w3.heap.size := by rw [HG4.out.2.2.1]; exact HG.out.2
      have hrg5 : RangesU w5 b W1.heap.size nn l _ cnt3 := ranges_sameU HRG3.out
        ((hsp.same b (Nat.lt_of_lt_of_le hbl HG4.out.2.1.size) fun hk => by have := (HK.out.1 b hk).1; omega).trans (HG4.out.2.1.block b hbl))
        ((hsp.same W1.heap.size HG4.out.2.2.2 fun hk => (HK.out.1 _ hk).2 rfl).trans (HG4.out.2.1.block _ hrl))
      have hmeas : w5.rangeLeft b W1.heap.size < wr.rangeLeft b W1.heap.size := by rw [hrg5.left_eq, HRG.out.left_eq]; exact HLT3.out
      have hgw5 : Grows w w5 := ((Spares.grows (own := K) (Grows.trans HG4.out.1 HG4.out.2.1)).trans hsp).below (Nat.le_refl _) fun k hk hk' => by have := (HK.out.1 k hk').1; omega
      have hsz5 : W1.heap.size < w5.heap.size := Nat.lt_of_lt_of_le HG4.out.2.2.2 hsp.size
      go_roundw
      case rel => exact ⟨_, cnt3, pre ++ [⟨c0, c1, c2⟩], m', Lib.hid hrg5, HC2, HM2, Lib.hid ⟨H5.out.2.2.1, H5.out.2.1, H5.out.1.trans (HQ.out.2.2.append_right _)⟩, Lib.hid ⟨hgw5, hsz5⟩⟩
      case measure => exact hmeas
end Go.Proofs.Ytlldcogkcjnejaa
