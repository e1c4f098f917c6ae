/-
  The document's answer to keys: without, List, From.
-/
import Derived.Test.YtadgbobemmfjoaaRkAt
namespace Go.Proofs.Ytadgbobemmfjoaa
open Go.RowKit
set_option linter.unusedVariables false
set_option linter.unusedSimpArgs false

abbrev OwnB (w : World) (B : Nat) (A : Option Addr) (n c : Nat) (l : List Pl) : Prop := w.ownsRow B 32 5 (.slice A n c) n (l.flatMap plE)
theorem app_plB {w : World} {ty B : Nat} {A : Option Addr} {n c : Nat} {l : List Pl} (ho : OwnB w B A n c l) {g t0 : Nat} {cs : Array Value} (x : Pl) (hw : Whole w g t0 cs) (hcs : cs = (plE x).toArray) (hn : n < 1000000) (hB : B ≤ w.heap.size) :
    ∃ A' c' w', (Builtin.append_ #[54, 54] ty #[.slice A n c, .slice (some ⟨g, 0, none⟩) 1 1]).run Try.prog w = .ok (.slice A' (n + 1) c') w' ∧ OwnB w' B A' (n + 1) c' (l ++ [x]) ∧ w.grownBy w' (Value.slice A n c).ownBlock := by
  subst hcs
  obtain ⟨i0, hi0, hz0, hz1, hz2⟩ := info_of infoPl
  have hcell : ∀ (j : Nat) (u : Value), (plE x)[j]? = some u → w.cell? ((⟨g, 0, none⟩ : Addr).add j) = some u := fun j u hj => by
    rw [show (⟨g, 0, none⟩ : Addr).add j = ⟨g, j, none⟩ by unfold Addr.add; split <;> simp_all, hw.cell j]
    simpa using hj
  obtain ⟨v', w', hr, h2, h3, _, _⟩ := run_append_own_at (P := Try.prog) (w := w) B 54 ty 32 i0 (.agg #[.int .i64 0, .int .i64 0, .string ⟨#[]⟩, .int .i64 0, .int .i64 0]) 5 48 Try.underlying54 hi0 hz0 hz1 hz2 rfl (by omega) (.slice A n c) n (l.flatMap plE) ho ⟨g, 0, none⟩ 1 1 (plE x) rfl hcell (plE_one x) (by unfold maxLen; omega) (by omega) hB
  obtain ⟨A', c', rfl⟩ := slice_ownP h2
  exact ⟨A', c', w', hr, by unfold OwnB; rw [flat_snoc]; exact h2, h3⟩
theorem ownB_grows {w5 w6 w7 : World} {A : Option Addr} {n c : Nat} {l : List Pl} (hg : Grows w5 w6) (ho : OwnB w6 w5.heap.size A n c l) (h : w6.grownBy w7 (Value.slice A n c).ownBlock) : Grows w5 w7 :=
  Below.grown (Below.mono hg (Nat.le_refl _)) h hg.size fun k hk => (owned_lt3 ho hk).1
theorem ownS_grows {w5 w6 w7 : World} {A : Option Addr} {n c : Nat} {l : Ks} (hg : Grows w5 w6) (ho : OwnS w6 w5.heap.size A n c l) (h : w6.grownBy w7 (Value.slice A n c).ownBlock) : Grows w5 w7 :=
  Below.grown (Below.mono hg (Nat.le_refl _)) h hg.size fun k hk => (owned_lt3 ho hk).1
theorem OwnB.len {w : World} {B : Nat} {A : Option Addr} {n c : Nat} {l : List Pl} (h : OwnB w B A n c l) : l.length = n := by
  have h1 := h.1
  rw [flat_len5] at h1
  omega
theorem delL_step {key : List UInt8} {x : Pl} {l : List Pl} {i : Nat} (h : l[i]? = some x) : delL key (l.take (i + 1)) = if x.key == key then delL key (l.take i) else delL key (l.take i) ++ [x] := by
  unfold delL
  rw [List.take_add_one, h, List.filter_append]
  by_cases e : x.key = key
  · simp [e]
  · have : (x.key == key) = false := by simpa using e
    simp [this]
theorem delL_few {key : List UInt8} {l : List Pl} {i : Nat} : (delL key (l.take i)).length ≤ i := by
  have h1 : (delL key (l.take i)).length ≤ (l.take i).length := List.length_filter_le _ _
  rw [List.length_take] at h1
  omega
set_option maxRecDepth 100000 in
set_option maxHeartbeats 4000000 in
theorem without_any {A : Option Addr} {n c : Nat} {l : List Pl} (w : World) (h : Pls w A n c l) (hn : n < 1000000) (key : List UInt8) :
    Calls Try.prog 30 #[.slice A n c, .string ⟨key.toArray⟩] w fun e w' => ∃ A' n' c', e = .returned (.slice A' n' c') ∧ OwnB w' w.heap.size A' n' c' (delL key l) ∧ Grows w w' := by
  have HX := Lib.hid (And.intro h h.len)
  clear h
  go_enter Try.func30, Try.ntmps30
  go_wp2_with (fail)
  go_loopw [5, 6] (fun vo vi wr => ∃ (i : Nat) (AW : Option Addr) (nW cW : Nat), i ≤ n ∧ vi = .int .i64 (i : Int) ∧ vo = .slice AW nW cW ∧ Hid (OwnB wr w.heap.size AW nW cW (delL key (l.take i)) ∧ Grows w wr)) (fun _ vi _ => n - (intOf vi).toNat)
  case atStart => exact ⟨0, none, 0, 0, Nat.zero_le _, rfl, rfl, Lib.hid ⟨⟨rfl, .inl ⟨rfl, rfl⟩⟩, Grows.refl _⟩⟩
  case round =>
    obtain ⟨i, AW, nW, cW, hi, rfl, rfl, HT⟩ := hrel
    by_cases hlt : i < n
    · obtain ⟨ad, p, rfl, hp, hbl, hc⟩ := Pls.at HX.out.1 hlt
      obtain ⟨c0, c1, c2, c3, c4⟩ := hc wr HT.out.2
      have hst := delL_step (key := key) hp
      obtain ⟨p0, p1, p2, p3, p4⟩ := p
      dsimp only at c0 c1 c2 c3 c4 hst
      have hke := key_eq p2 key
      have k0 : (0 : Int) ≤ (i : Int) := by omega
      have k1 : (i : Int) < (n : Int) := by omega
      have hfew : nW < 1000000 := by
        have h1 := HT.out.1.len
        have h2 := delL_few (key := key) (l := l) (i := i)
        omega
      clear hp hbl hc
      rcases howe : (p2 == key) with _ | _
      · have HWS := Lib.hid (show delL key (l.take (i + 1)) = delL key (l.take i) ++ [⟨p0, p1, p2, p3, p4⟩] from by rw [hst, howe]; rfl)
        have hg1 := grows_alloc wr (.cells #[.int .i64 p0, .int .i64 p1, .string ⟨p2.toArray⟩, .int .i64 p3, .int .i64 p4] 32)
        have hm1 := Whole.made wr 32 #[.int .i64 p0, .int .i64 p1, .string ⟨p2.toArray⟩, .int .i64 p3, .int .i64 p4]
        obtain ⟨W1, hW1⟩ : ∃ W1, wr.alloc (.cells #[.int .i64 p0, .int .i64 p1, .string ⟨p2.toArray⟩, .int .i64 p3, .int .i64 p4] 32) = W1 := ⟨_, rfl⟩
        rw [hW1] at hg1 hm1
        obtain ⟨A', c', W2, hrun, hown2, hgb⟩ := app_plB (ty := 54) (owned_grow HT.out.1 hg1) ⟨p0, p1, p2, p3, p4⟩ hm1 rfl hfew (by have := HT.out.2.size; have := hg1.size; omega)
        obtain ⟨gk, hgk⟩ : ∃ gk, wr.heap.size = gk := ⟨_, rfl⟩
        rw [hgk] at hrun
        have HRUN := Lib.hid hrun
        have HN := Lib.hid (And.intro hown2 (ownB_grows (Grows.trans HT.out.2 hg1) (owned_grow HT.out.1 hg1) hgb))
        clear hg1 hm1 hrun hown2 hgb hst hfew
        go_wp2_with (first
          | rw [hW1]
          | (at_builtin; refine list_exec rfl (exec_appK rfl rfl rfl HRUN.out) ?_; simp only [Act.put, List.setIfInBounds_toArray, List.set_cons_zero, List.set_cons_succ])
          | fail)
        go_roundw
        case rel => exact ⟨i + 1, A', nW + 1, c', by omega, by first | rfl | go_num, rfl, Lib.hid ⟨by rw [HWS.out]; exact HN.out.1, HN.out.2⟩⟩
        case measure => simp [intOf]; omega
      · have HWS := Lib.hid (show delL key (l.take (i + 1)) = delL key (l.take i) from by rw [hst, howe]; rfl)
        clear hst hfew
        go_wp2_with (fail)
        go_roundw
        case rel => exact ⟨i + 1, AW, nW, cW, by omega, by first | rfl | go_num, rfl, Lib.hid ⟨by rw [HWS.out]; exact HT.out.1, HT.out.2⟩⟩
        case measure => simp [intOf]; omega
    · obtain rfl : i = n := by omega
      have ht : l.take i = l := List.take_of_length_le (by have := HX.out.2; omega)
      rw [ht] at HT
      clear ht
      go_wp2_with (fail)
      go_ret
      exact ⟨AW, nW, cW, rfl, HT.out.1, HT.out.2⟩
theorem keys_step {x : Pl} {l : List Pl} {i : Nat} (h : l[i]? = some x) : (l.take (i + 1)).map (fun p : Pl => p.key) = (l.take i).map (fun p : Pl => p.key) ++ [x.key] := by
  rw [List.take_add_one, h, List.map_append]
  rfl
set_option maxRecDepth 100000 in
set_option maxHeartbeats 4000000 in
theorem rklist_any {q c : Nat} {A : Option Addr} {l : List Pl} {w : World} (h : RkAt w q A c l) (hn : l.length < 1000000) :
    Calls Try.prog 25 #[.pointer (some ⟨q, 0, none⟩)] w fun e w' => ∃ A' n' c', e = .returned (.slice A' n' c') ∧ OwnS w' w.heap.size A' n' c' (l.map fun p : Pl => p.key) ∧ Grows w w' := by
  obtain ⟨n, hl⟩ : ∃ n, l.length = n := ⟨_, rfl⟩
  have hb := h.box
  have hrow := h.row
  rw [hl] at hb hrow hn
  have HX := Lib.hid (And.intro hb (And.intro hrow hl))
  clear h hb hrow hl
  go_enter Try.func25, Try.ntmps25
  go_wp2_with (fail)
  go_loopw [3, 4] (fun vo vi wr => ∃ (i : Nat) (AW : Option Addr) (cW : Nat), i ≤ n ∧ vi = .int .i64 (i : Int) ∧ vo = .slice AW i cW ∧ Hid (OwnS wr w.heap.size AW i cW ((l.take i).map fun p : Pl => p.key) ∧ Grows w wr)) (fun _ vi _ => n - (intOf vi).toNat)
  case atStart => exact ⟨0, none, 0, Nat.zero_le _, rfl, rfl, Lib.hid ⟨⟨rfl, .inl ⟨rfl, rfl⟩⟩, Grows.refl _⟩⟩
  case round =>
    obtain ⟨i, AW, cW, hi, rfl, rfl, HT⟩ := hrel
    have hbw : Boxed wr q 56 (.slice A n c) := (HT.out.2.block _ HX.out.1.lt).trans HX.out.1
    have d0 := hbw.cell
    clear hbw
    by_cases hlt : i < n
    · obtain ⟨ad, p, rfl, hp, hbl, hc⟩ := Pls.at HX.out.2.1 hlt
      obtain ⟨c0, c1, c2, c3, c4⟩ := hc wr HT.out.2
      have hst := keys_step hp
      obtain ⟨p0, p1, p2, p3, p4⟩ := p
      dsimp only at c0 c1 c2 c3 c4 hst
      have k0 : (0 : Int) ≤ (i : Int) := by omega
      have k1 : (i : Int) < (n : Int) := by omega
      clear hp hbl hc
      have HWS := Lib.hid hst
      have hg1 := grows_alloc wr (.cells #[.string ⟨p2.toArray⟩] 9)
      have hm1 := Whole.made wr 9 #[.string ⟨p2.toArray⟩]
      obtain ⟨W1, hW1⟩ : ∃ W1, wr.alloc (.cells #[.string ⟨p2.toArray⟩] 9) = W1 := ⟨_, rfl⟩
      rw [hW1] at hg1 hm1
      obtain ⟨A', c', W2, hrun, hown2, hgb⟩ := app_key (ty := 38) (owned_grow HT.out.1 hg1) p2 hm1 (by omega) (by have := HT.out.2.size; have := hg1.size; omega)
      obtain ⟨gk, hgk⟩ : ∃ gk, wr.heap.size = gk := ⟨_, rfl⟩
      rw [hgk] at hrun
      have HRUN := Lib.hid hrun
      have HN := Lib.hid (And.intro hown2 (ownS_grows (Grows.trans HT.out.2 hg1) (owned_grow HT.out.1 hg1) hgb))
      clear hg1 hm1 hrun hown2 hgb hst
      go_wp2_with (first
        | rw [hW1]
        | (at_builtin; refine list_exec rfl (exec_appK rfl rfl rfl HRUN.out) ?_; simp only [Act.put, List.setIfInBounds_toArray, List.set_cons_zero, List.set_cons_succ])
        | fail)
      go_roundw
      case rel => exact ⟨i + 1, A', c', by omega, by first | rfl | go_num, rfl, Lib.hid ⟨by rw [HWS.out]; exact HN.out.1, HN.out.2⟩⟩
      case measure => simp [intOf]; omega
    · obtain rfl : i = n := by omega
      have ht : l.take i = l := List.take_of_length_le (by have := HX.out.2.2; omega)
      rw [ht] at HT
      clear ht
      go_wp2_with (fail)
      go_ret
      exact ⟨AW, i, cW, rfl, HT.out.1, HT.out.2⟩
theorem fromP_early {key : List UInt8} {l : List Pl} {i m : Nat} (h : (wantK key ((l.take i).map fun p : Pl => p.key)).length = m) : wantK key ((l.take i).map fun p : Pl => p.key) = fromP key m l := by
  unfold fromP
  have h1 : l.map (fun p : Pl => p.key) = (l.take i).map (fun p : Pl => p.key) ++ (l.drop i).map (fun p : Pl => p.key) := by rw [← List.map_append, List.take_append_drop]
  have h2 : wantK key (l.map fun p : Pl => p.key) = wantK key ((l.take i).map fun p : Pl => p.key) ++ wantK key ((l.drop i).map fun p : Pl => p.key) := by
    rw [h1]
    unfold wantK
    rw [List.filter_append]
  rw [h2, ← h, List.take_left']
  rfl
theorem wantK_few {key : List UInt8} {l : List Pl} {i : Nat} : (wantK key ((l.take i).map fun p : Pl => p.key)).length ≤ i := by
  have h1 : (wantK key ((l.take i).map fun p : Pl => p.key)).length ≤ ((l.take i).map fun p : Pl => p.key).length := List.length_filter_le _ _
  rw [List.length_map, List.length_take] at h1
  omega
theorem fromP_end {key : List UInt8} {l : List Pl} {i m : Nat} (hi : l.length ≤ i) (h : (wantK key ((l.take i).map fun p : Pl => p.key)).length ≤ m) : wantK key ((l.take i).map fun p : Pl => p.key) = fromP key m l := by
  rw [List.take_of_length_le hi] at h ⊢
  exact (List.take_of_length_le h).symm
set_option maxRecDepth 100000 in
set_option maxHeartbeats 4000000 in
theorem rkfrom_any {q c : Nat} {A : Option Addr} {l : List Pl} {w : World} (h : RkAt w q A c l) (hn : l.length < 1000000) (key : List UInt8) (N : Int) :
    Calls Try.prog 19 #[.pointer (some ⟨q, 0, none⟩), .string ⟨key.toArray⟩, .int .i64 N] w fun e w' => ∃ A' n' c', e = .returned (.slice A' n' c') ∧ OwnS w' w.heap.size A' n' c' (fromP key N.toNat l) ∧ Grows w w' := by
  obtain ⟨n, hl⟩ : ∃ n, l.length = n := ⟨_, rfl⟩
  have hb := h.box
  have hrow := h.row
  rw [hl] at hb hrow hn
  have HX := Lib.hid (And.intro hb (And.intro hrow hl))
  clear h hb hrow hl
  go_enter Try.func19, Try.ntmps19
  go_wp2_with (fail)
  go_loopw [7, 8] (fun vo vi wr => ∃ (i : Nat) (AW : Option Addr) (nW cW : Nat), i ≤ n ∧ vi = .int .i64 (i : Int) ∧ vo = .slice AW nW cW ∧ Hid (OwnS wr w.heap.size AW nW cW (wantK key ((l.take i).map fun p : Pl => p.key)) ∧ Grows w wr ∧ nW ≤ N.toNat)) (fun _ vi _ => n - (intOf vi).toNat)
  case atStart => exact ⟨0, none, 0, 0, Nat.zero_le _, rfl, rfl, Lib.hid ⟨⟨rfl, .inl ⟨rfl, rfl⟩⟩, Grows.refl _, Nat.zero_le _⟩⟩
  case round =>
    obtain ⟨i, AW, nW, cW, hi, rfl, rfl, HT⟩ := hrel
    have hbw : Boxed wr q 56 (.slice A n c) := (HT.out.2.1.block _ HX.out.1.lt).trans HX.out.1
    have d0 := hbw.cell
    clear hbw
    by_cases hlt : i < n
    · have k0 : (0 : Int) ≤ (i : Int) := by omega
      have k1 : (i : Int) < (n : Int) := by omega
      by_cases hN : (nW : Int) < N
      · have HNN := Lib.hid hN
        obtain ⟨ad, p, rfl, hp, hbl, hc⟩ := Pls.at HX.out.2.1 hlt
        obtain ⟨c0, c1, c2, c3, c4⟩ := hc wr HT.out.2.1
        have hst := keys_step hp
        obtain ⟨p0, p1, p2, p3, p4⟩ := p
        dsimp only at c0 c1 c2 c3 c4 hst
        have hkl := kless p2 key
        have hfew : nW < 1000000 := by
          have h1 := OwnS.len HT.out.1
          have h2 := wantK_few (key := key) (l := l) (i := i)
          omega
        clear hp hbl hc
        have hst2 := wantK_snoc key ((l.take i).map fun p : Pl => p.key) p2
        rw [← hst] at hst2
        clear hst
        rcases hr : bytesBefore p2 key with _ | _
        · have HWS := Lib.hid (show wantK key ((l.take (i + 1)).map fun p : Pl => p.key) = wantK key ((l.take i).map fun p : Pl => p.key) ++ [p2] from by rw [hst2, hr]; rfl)
          have hg1 := grows_alloc wr (.cells #[.string ⟨p2.toArray⟩] 9)
          have hm1 := Whole.made wr 9 #[.string ⟨p2.toArray⟩]
          obtain ⟨W1, hW1⟩ : ∃ W1, wr.alloc (.cells #[.string ⟨p2.toArray⟩] 9) = W1 := ⟨_, rfl⟩
          rw [hW1] at hg1 hm1
          obtain ⟨A', c', W2, hrun, hown2, hgb⟩ := app_key (ty := 38) (owned_grow HT.out.1 hg1) p2 hm1 hfew (by have := HT.out.2.1.size; have := hg1.size; omega)
          obtain ⟨gk, hgk⟩ : ∃ gk, wr.heap.size = gk := ⟨_, rfl⟩
          rw [hgk] at hrun
          have HRUN := Lib.hid hrun
          have HN := Lib.hid (And.intro hown2 (ownS_grows (Grows.trans HT.out.2.1 hg1) (owned_grow HT.out.1 hg1) hgb))
          rw [hr] at hkl
          clear hg1 hm1 hrun hown2 hgb hst2 hfew hr
          go_wp2_with (first
            | rw [hW1]
            | (at_builtin; refine list_exec rfl (exec_appK rfl rfl rfl HRUN.out) ?_; simp only [Act.put, List.setIfInBounds_toArray, List.set_cons_zero, List.set_cons_succ])
            | fail)
          go_roundw
          case rel => exact ⟨i + 1, A', nW + 1, c', by omega, by first | rfl | go_num, rfl, Lib.hid ⟨by rw [HWS.out]; exact HN.out.1, HN.out.2, by have := HNN.out; omega⟩⟩
          case measure => simp [intOf]; omega
        · have HWS := Lib.hid (show wantK key ((l.take (i + 1)).map fun p : Pl => p.key) = wantK key ((l.take i).map fun p : Pl => p.key) from by rw [hst2, hr]; rfl)
          rw [hr] at hkl
          clear hst2 hfew hr
          go_wp2_with (fail)
          go_roundw
          case rel => exact ⟨i + 1, AW, nW, cW, by omega, by first | rfl | go_num, rfl, Lib.hid ⟨by rw [HWS.out]; exact HT.out.1, HT.out.2⟩⟩
          case measure => simp [intOf]; omega
      · have HE := Lib.hid (show wantK key ((l.take i).map fun p : Pl => p.key) = fromP key N.toNat l from fromP_early (by have := OwnS.len HT.out.1; have := HT.out.2.2; omega))
        go_wp2_with (fail)
        go_ret
        exact ⟨AW, nW, cW, rfl, by rw [← HE.out]; exact HT.out.1, HT.out.2.1⟩
    · have HE := Lib.hid (show wantK key ((l.take i).map fun p : Pl => p.key) = fromP key N.toNat l from fromP_end (by have := HX.out.2.2; omega) (by have := OwnS.len HT.out.1; have := HT.out.2.2; omega))
      go_wp2_with (fail)
      go_ret
      exact ⟨AW, nW, cW, rfl, by rw [← HE.out]; exact HT.out.1, HT.out.2.1⟩
end Go.Proofs.Ytadgbobemmfjoaa
