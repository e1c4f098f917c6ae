/-
  The walk of rec's locs (of a source).
-/
import Derived.Test.YtmfhpfehphbklaaRcParts
import Derived.Laws.AppendOwn
namespace Go.Proofs.Ytmfhpfehphbklaa
open Go.RowKit
set_option linter.unusedSimpArgs false

theorem infoLoc : (Try.prog.info? 67).map (fun i => (i.zero, i.size, i.bytes)) = some (some (.agg #[.int .i64 0, .int .i64 0, .int .i64 0]), 3, 24) := by kernel_rfl
theorem lcV_at {w : World} {g ty : Nat} {l : Lc} (hw : Whole w g ty #[.int .i64 l.1, .int .i64 l.2.1, .int .i64 l.2.2]) : ∀ j u, (lcV l)[j]? = some u → w.cell? ((⟨g, 0, none⟩ : Addr).add j) = some u := by
  intro j u hj
  rw [show (⟨g, 0, none⟩ : Addr).add j = ⟨g, j, none⟩ by unfold Addr.add; split <;> simp_all, hw.cell j]
  simpa [lcV] using hj
theorem lcV_one (l : Lc) : ∀ u ∈ lcV l, u.oneCell' = true := by
  intro u hu
  simp only [lcV, List.mem_cons, List.not_mem_nil, or_false] at hu
  rcases hu with rfl | rfl | rfl <;> rfl
theorem rcslice_own {w : World} {base : Nat} {e : TypeId} {size : Nat} {v : Value} {n : Nat} {xs : List Value} (h : w.ownsRow base e size v n xs) : ∃ A c, v = .slice A n c := by
  rcases h.2 with ⟨rfl, rfl⟩ | ⟨g, cap, _, rfl, _⟩
  · exact ⟨none, 0, rfl⟩
  · exact ⟨_, cap, rfl⟩
section
variable {ops : Array Oper} {rest : List Oper} {o : Oper} {a : Act} {w : World} {Q : Exit → Act → World → Prop}
/-- 'append(s, x)' of one place, s the call's own. -/
theorem list_append_loc (hgd : o.guard = none) (s x : Operand) (ho : o.op = .call { callee := .builtin .append, args := #[s, x], argTypes := #[22, 22] })
    {base : Nat} {LA : Option Addr} {n lc : Nat} {ts : List Lc} (hs : a.eval s = .slice LA n lc) (hown : w.ownsRow base 67 3 (.slice LA n lc) n (lcCells ts))
    {g ty : Nat} (t : Lc) (hx : a.eval x = .slice (some ⟨g, 0, none⟩) 1 1) (hw : Whole w g ty #[.int .i64 t.1, .int .i64 t.2.1, .int .i64 t.2.2]) (hn : n ≤ 1000000) (hbase : base ≤ w.heap.size)
    (hk : ∀ A' c' w', w'.ownsRow base 67 3 (.slice A' (n + 1) c') (n + 1) (lcCells (ts ++ [t])) → Below base w w' → wpList Try.prog ops Q rest (a.put o.dst (.slice A' (n + 1) c')) w') : wpList Try.prog ops Q (o :: rest) a w := by
  obtain ⟨i0, hi, hz0, hz1, hz2⟩ := info_parts infoLoc
  refine wpList_append_own w hgd s x 22 ho base 67 i0 _ 3 24 Try.underlying22 hi hz0 hz1 hz2 rfl (by decide) (.slice LA n lc) n (lcCells ts) hs hown ⟨g, 0, none⟩ 1 1 (lcV t) hx rfl (lcV_at hw) (lcV_one t) (by unfold maxLen; omega) (by omega) hbase fun v' w' h1 h2 _ => ?_
  obtain ⟨A', c', rfl⟩ := rcslice_own h1
  rw [show lcCells ts ++ lcV t = lcCells (ts ++ [t]) by rw [lcCells_append]; simp [lcCells]] at h1
  exact hk A' c' w' h1 ((Below.refl _ w).grown h2 hbase fun k hk => (hown.lt k hk).1)
end

theorem numS_two (s : Src) : (numS s 2).1 < 65536 := by
  have h := valB_lt (takeS s 2).1
  have hl : (takeS s 2).1.length ≤ 2 := by
    unfold takeS
    split
    · simp
    · simp; omega
  unfold numS
  dsimp only
  obtain e | e | e : (takeS s 2).1.length = 0 ∨ (takeS s 2).1.length = 1 ∨ (takeS s 2).1.length = 2 := by omega
  all_goals
    rw [e] at h
    simp at h
    omega
theorem locsL_stop {k : Nat} {s : Src} {acc : List Lc} (h : (locS s).2.2 = true) : locsL (k + 1) s acc = ([], (locS s).2) := by
  rw [locsL, if_pos h]
theorem locsL_go {k : Nat} {s : Src} {acc : List Lc} (h : (locS s).2.2 = false) : locsL (k + 1) s acc = locsL k (locS s).2 (acc ++ [(locS s).1]) := by
  rw [locsL, if_neg (by rw [h]; simp)]
theorem locS_len (s : Src) : (locS s).2.1.length ≤ s.1.length := Nat.le_trans (numS_len _ _) (Nat.le_trans (numS_len _ _) (numS_len _ _))

set_option maxRecDepth 100000 in
set_option maxHeartbeats 8000000 in
theorem locsS_any (g : Nat) (s : Src) (w : World) (h : At w g s) (hs : s.1.length ≤ 140737488351232) :
    Calls Try.prog 98 #[.pointer (some ⟨g, 0, none⟩)] w fun e w' => ∃ A n c, e = .returned (.slice A n c) ∧ w'.ownsRow w.heap.size 67 3 (.slice A n c) n (lcCells (locsS s).1) ∧ (locsS s).1.length = n ∧ At w' g (locsS s).2 ∧ Turns g w w' := by
  have hg := h.lt
  have h1 := num_any g s 2 w h (by omega) hs
  have hlt := numS_two s
  have hsl := numS_len s 2
  obtain ⟨N, hN⟩ := numS_nat s 2
  unfold locsS
  rw [show ((2 : Nat) : Int) = 2 from rfl] at h1
  rw [hN] at h1 hlt
  rw [hN, Int.toNat_natCast]
  generalize (numS s 2).2 = s1 at *
  have H1 := Lib.hid h1
  have hN2 : N ≤ 65536 := by omega
  clear h1 h hN hlt
  obtain ⟨R, hR⟩ : ∃ R, locsL N s1 [] = R := ⟨_, rfl⟩
  rw [hR]
  have HR := Lib.hid hR
  clear hR
  go_enter Try.func98, Try.ntmps98
  go_wp2_with (fail)
  refine H1.out.mono ?_
  rintro e w1 ⟨rfl, ha, ht⟩
  have HA := Lib.hid (And.intro ha ht)
  clear ha ht
  go_wp2_with (fail)
  go_loopw [3, 7] (fun a i wr => ∃ (A : Option Addr) (c k n : Nat) (s' : Src) (acc : List Lc), k ≤ N ∧ n ≤ k ∧ i = .int .i64 (k : Nat) ∧ a = .slice A n c ∧ Hid (acc.length = n ∧ locsL (N - k) s' acc = R) ∧ Hid (At wr g s' ∧ s'.1.length ≤ s.1.length) ∧ Hid (wr.ownsRow w.heap.size 67 3 (.slice A n c) n (lcCells acc)) ∧ Hid (Turns g w wr)) (fun _ i _ => N - (intOf i).toNat)
  case atStart => exact ⟨none, 0, 0, 0, s1, [], by omega, by omega, rfl, rfl, Lib.hid ⟨rfl, by simpa using HR.out⟩, Lib.hid ⟨HA.out.1, hsl⟩, Lib.hid (World.ownsRow_nil _ _ _ _), Lib.hid HA.out.2⟩
  case round =>
    obtain ⟨A, c, k, n, s', acc, hk, hnk, rfl, rfl, HE, HS, HO, HT⟩ := hrel
    by_cases hlt : k < N
    · have hq : N - k = (N - (k + 1)) + 1 := by omega
      have he0 := HE.out.2
      rw [hq] at he0
      have he : ((locS s').2.2 = true → ([], (locS s').2) = R) ∧ ((locS s').2.2 = false → locsL (N - (k + 1)) (locS s').2 (acc ++ [(locS s').1]) = R) := ⟨fun h => (locsL_stop h).symm.trans he0, fun h => (locsL_go h).symm.trans he0⟩
      clear he0
      have hle := locS_len s'
      have hl0 := HS.out.2
      have l1 := numS_len s' 4
      have l2 := numS_len (numS s' 4).2 4
      have C1 := Lib.hid (num_any g s' 4 wr HS.out.1 (by omega) (by omega))
      have C2 := Lib.hid (fun (w2 : World) (h : At w2 g (numS s' 4).2) => num_any g (numS s' 4).2 4 w2 h (by omega) (by omega))
      have C3 := Lib.hid (fun (w2 : World) (h : At w2 g (numS (numS s' 4).2 4).2) => num_any g (numS (numS s' 4).2 4).2 2 w2 h (by omega) (by omega))
      rw [show ((4 : Nat) : Int) = 4 from rfl] at C1 C2
      rw [show ((2 : Nat) : Int) = 2 from rfl] at C3
      unfold locS at he hle
      dsimp only at he hle
      generalize numS (numS (numS s' 4).2 4).2 2 = z at *
      generalize numS (numS s' 4).2 4 = y at *
      generalize numS s' 4 = x at *
      obtain ⟨z0, zs, zb⟩ := z
      dsimp only at he hle C3
      have HE2 := Lib.hid he
      have k0 : (k : Int) < (N : Int) := by omega
      have HLE := Lib.hid hle
      clear he hle hq l1 l2 hl0
      go_wp2_with (fail)
      refine C1.out.mono ?_
      rintro e w2 ⟨rfl, ha2, ht2⟩
      have HA2 := Lib.hid (And.intro ha2 ht2)
      clear ha2 ht2
      go_wp2_with (fail)
      refine (C2.out w2 HA2.out.1).mono ?_
      rintro e w3 ⟨rfl, ha3, ht3⟩
      have HA3 := Lib.hid (And.intro ha3 (HA2.out.2.trans ht3))
      clear ha3 ht3
      go_wp2_with (fail)
      refine (C3.out w3 HA3.out.1).mono ?_
      rintro e w4 ⟨rfl, ha4, ht4⟩
      have HA4 := Lib.hid (And.intro ha4 (HA3.out.2.trans ht4))
      have hlt4 := ha4.lt
      obtain ⟨A4, n4, c4, hw4, hl4⟩ := ha4
      have d1 := hw4.cell 1
      simp only [List.getElem?_toArray, List.getElem?_cons_zero, List.getElem?_cons_succ] at d1
      have hsz4 : w.heap.size ≤ w4.heap.size := Nat.le_trans HT.out.size HA4.out.2.size
      have HO4 := Lib.hid (owned_turn HO.out HA4.out.2 hg)
      clear hw4 hl4 ht4
      cases zb with
      | true =>
        go_wp2_with (fail)
        go_ret
        have he := HE2.out.1 (by simp)
        subst he
        exact ⟨none, 0, 0, rfl, World.ownsRow_nil _ _ _ _, rfl, HA4.out.1.up (grows_alloc _ _), (HT.out.trans HA4.out.2).trans (Turns.grow (grows_alloc _ _))⟩
      | false =>
        have hx5 := Whole.made w4 67 #[.int .i64 x.1, .int .i64 y.1, .int .i64 z0]
        have hx6 := Whole.made (w4.alloc (.cells #[.int .i64 x.1, .int .i64 y.1, .int .i64 z0] 67)) 67 #[.int .i64 x.1, .int .i64 y.1, .int .i64 z0]
        rw [World.size_alloc] at hx6
        have HX := Lib.hid hx6
        have HG6 := Lib.hid (Grows.trans (grows_alloc w4 (.cells #[.int .i64 x.1, .int .i64 y.1, .int .i64 z0] 67)) (grows_alloc _ (.cells #[.int .i64 x.1, .int .i64 y.1, .int .i64 z0] 67)))
        clear hx5 hx6
        go_wp2_with (at_builtin
                     refine list_append_loc rfl (.tmp 20) (.tmp 22) rfl (base := w.heap.size) rfl (owned_grow HO4.out HG6.out) (x.1, y.1, z0) rfl HX.out (by omega) (Nat.le_trans hsz4 HG6.out.size) ?_
                     intro A7 c7 w7 ho7 hb7
                     have HO7 := Lib.hid ho7
                     have HB7 := Lib.hid hb7
                     clear ho7 hb7)
        go_roundw
        case rel =>
          have he := HE2.out.2 (by simp)
          refine ⟨A7, c7, k + 1, n + 1, (zs, false), acc ++ [(x.1, y.1, z0)], by omega, by omega, by go_num, rfl, Lib.hid ⟨by rw [List.length_append, HE.out.1]; rfl, he⟩, Lib.hid ⟨?_, Nat.le_trans HLE.out HS.out.2⟩, HO7, Lib.hid ?_⟩
          · exact (HA4.out.1.up HG6.out).under HB7.out hg
          · exact ((HT.out.trans HA4.out.2).trans (Turns.grow HG6.out)).then HB7.out
        case measure => simp [intOf]; omega
    · obtain rfl : k = N := by omega
      have he := HE.out.2
      rw [Nat.sub_self, locsL] at he
      have hn := HE.out.1
      subst he hn
      go_wp2_with (fail)
      go_ret
      exact ⟨A, acc.length, c, rfl, HO.out, rfl, HS.out.1, HT.out⟩
end Go.Proofs.Ytmfhpfehphbklaa
