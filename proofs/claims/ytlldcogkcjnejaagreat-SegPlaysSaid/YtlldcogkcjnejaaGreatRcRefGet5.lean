import Derived.Test.YtlldcogkcjnejaaGreatMG32
import Derived.Test.YtlldcogkcjnejaaGreatMG20
import Derived.Test.YtlldcogkcjnejaaGreatMG04
namespace Go.Proofs.YtlldcogkcjnejaaGreat
open Go.Lib (hid)
open Go.RowKit

section
variable {own : Nat → Prop} {P : Program} {ops : Array Oper} {W : World} {Q : Act → World → Prop} {o : Oper} {rest : List Oper} {js : List (Job Grows (Zc own))} {ks : Known} {C : World → Prop} {a : Act}
theorem Zsc {α : Type} {x0 : α} {val : α → Value} {C' : α → World → Prop} {hC' : ∀ x w w', C' x w → Grows w w' → C' x w'} (hw : Region.wanted o (yielded ops a.tmps) = true)
 (h1 : ∀ w, Zc own W w → C w → ks.for (o.looksAt ops) w → ∃ x w', (execOp a.eval o).run P w = .ok (.value (val x)) w' ∧ Zc own w w' ∧ C' x w') (h2 : ∀ x, wpJ P ops W Q rest js ks (C' x) (a.put o.dst (val x))) :
 wpJ P ops W Q (o :: rest) (Zqm own α x0 val C' hC' :: js) ks C a := by
 unfold wpJ jStep
 rw [if_pos hw]
 refine ⟨fun w hW hk hC => ?_, fun x => Ju _ _ ks _ _ _ (fun k hk => List.mem_cons_of_mem _ hk) (h2 x)⟩
 obtain ⟨x, w', hr, hs, hc⟩ := h1 w hW (hC rfl) hk
 rw [hr]
 exact ⟨x, rfl, trivial, fun _ => ⟨hs, hc⟩, fun h => by cases h⟩
end
theorem Zp9 {P : Program} {o : Oper} {a : Act} {w w' : World} {s x : Operand} {t u : TypeId} {v1 v2 v : Value} (ho : o.op = .call { callee := .builtin .append, args := #[s, x], argTypes := #[t, u] }) (hs : a.eval s = v1) (hx : a.eval x = v2)
 (hrun : (Builtin.append_ #[t, u] o.type #[v1, v2]).run P w = .ok v w') : (execOp a.eval o).run P w = .ok (.value v) w' := by
 unfold execOp
 simp only [ho, resolve, invoke, builtin, Sem.run_bind, Sem.run_pure, Result.andThen_ok, List.map_toArray, List.map_cons, List.map_nil, hs, hx, hrun]
theorem Zet {w : World} {ty base : Nat} {LA : Option Addr} {n lc : Nat} {ts : List Lc} (hown : w.ownsRow base 105 3 (.slice LA n lc) n (lcCells ts))
 {g t0 : Nat} (t : Lc) (hw : Whole w g t0 #[.int .i64 t.1, .int .i64 t.2.1, .int .i64 t.2.2]) (hn : n ≤ 1000000) (hbase : base ≤ w.heap.size) :
 ∃ A' c' w', (Builtin.append_ #[30, 30] ty #[.slice LA n lc, .slice (some ⟨g, 0, none⟩) 1 1]).run Tryz.prog w = .ok (.slice A' (n + 1) c') w' ∧ w'.ownsRow base 105 3 (.slice A' (n + 1) c') (n + 1) (lcCells (ts ++ [t])) ∧ w.grownBy w' (Value.slice LA n lc).ownBlock := by
 obtain ⟨i0, hi, hz0, hz1, hz2⟩ := info_parts infoLoc
 obtain ⟨v', w', hrun, h2, h3, _⟩ := run_append_own (P := Tryz.prog) w base 30 ty 105 i0 _ 3 24 Tryz.underlying30 hi hz0 hz1 hz2 rfl (by decide) (.slice LA n lc) n (lcCells ts) hown ⟨g, 0, none⟩ 1 1 (lcV t) rfl (Zqt hw) (Znt t) (by unfold maxLen; omega) (by omega) hbase
 obtain ⟨A', c', rfl⟩ := Zd4 h2
 rw [show lcCells ts ++ lcV t = lcCells (ts ++ [t]) by rw [lcCells_append]; simp [lcCells]] at h2
 exact ⟨A', c', w', hrun, h2, h3⟩
theorem Zob {b0 c0 : UInt8} {ys X : List UInt8} {q at0 k n J J4 J8 J10 : Nat} {acc LS : List Lc} {u1 u2 u3 : Int} (hX : b0 :: c0 :: ys = X) (hat : 2 + q = at0) (hn : n = ys.length + 2) (hJ : J = at0 + 11 + 10 * k) (h4 : J4 = J + 4) (h8 : J8 = J + 8) (h10 : J10 = J + 10) (hle : J10 ≤ n)
 (h1 : valB ((X.take J4).drop J) = u1) (h2 : valB ((X.take J8).drop J4) = u2) (h3 : valB ((X.take J10).drop J8) = u3) (he : acc ++ locsR (n - at0 - k) ((ys.drop q).drop (11 + 10 * k)) = LS) :
 (acc ++ [(u1, u2, u3)]) ++ locsR (n - at0 - (k + 1)) ((ys.drop q).drop (11 + 10 * (k + 1))) = LS := by
 obtain ⟨N, hN⟩ : ∃ N, n - at0 - k = N + 1 := ⟨n - at0 - k - 1, by omega⟩
 have e1 : X.drop J = (ys.drop q).drop (11 + 10 * k) := by
  subst hX
  rw [show J = (q + (11 + 10 * k)) + 1 + 1 by omega, List.drop_succ_cons, List.drop_succ_cons, List.drop_drop]
 have t4 : (ys.drop q).drop (11 + 10 * (k + 1)) = ((ys.drop q).drop (11 + 10 * k)).drop 10 := by
  rw [List.drop_drop (i := 10)]
  congr 1
 have hlen : 10 ≤ ((ys.drop q).drop (11 + 10 * k)).length := by simp only [List.length_drop]; omega
 generalize (ys.drop q).drop (11 + 10 * k) = Y at *
 rw [hN, locsR, if_pos hlen] at he
 have t1 : (X.take J4).drop J = Y.take 4 := by rw [List.drop_take, e1, show J4 - J = 4 by omega]
 have t2 : (X.take J8).drop J4 = (Y.drop 4).take 4 := by rw [List.drop_take, show X.drop J4 = (X.drop J).drop 4 by rw [List.drop_drop, h4], e1, show J8 - J4 = 4 by omega]
 have t3 : (X.take J10).drop J8 = (Y.drop 8).take 2 := by rw [List.drop_take, show X.drop J8 = (X.drop J).drop 8 by rw [List.drop_drop, h8], e1, show J10 - J8 = 2 by omega]
 rw [t4, show n - at0 - (k + 1) = N by omega, ← h1, ← h2, ← h3, t1, t2, t3, List.append_assoc]
 exact he

set_option maxRecDepth 100000 in
set_option maxHeartbeats 4000000 in
theorem Zi7 (ad : Addr) (n c : Nat) (b0 : UInt8) (xs : List UInt8) (w : World) (hs : Sl w (some ad) n c (b0 :: xs)) (hn : n ≤ 20000) (hk1 : b0.toNat ≠ 1) (hk4 : b0.toNat ≠ 4) (c0 : UInt8) (ys : List UInt8) (hx : xs = c0 :: ys) (hk3 : b0.toNat ≠ 3) (hl : ¬ ys.length < c0.toNat) (hsh : c0.toNat + 11 ≤ ys.length) :
 Calls Tryz.prog 107 #[.slice (some ad) n c] w fun e w' => ∃ LA ln lc BA bn bc, e = .returned (.agg #[.int .i64 (refP b0.toNat xs).kind, .string ⟨(refP b0.toNat xs).key.toArray⟩, .int .i64 (refP b0.toNat xs).id, .int .i64 (refP b0.toNat xs).no, .int .i64 (refP b0.toNat xs).size, .slice LA ln lc, .slice BA bn bc]) ∧ RcOwn w' w.heap.size LA ln lc BA bn bc (refP b0.toNat xs) ∧ Below w.heap.size w w' := by
 have hlen := hs.len
 have hcap := hs.cap
 simp only [List.length_cons] at hlen
 have hn0 : (0 : Int) < (n : Int) := by omega
 have hnn : 0 < n := by omega
 obtain ⟨_, e0, hab, hcell⟩ := hs.bytes.spot (k := 0) (by omega)
 injection e0 with e0
 subst e0
 simp only [List.getD_cons_zero, Addr.add_zero'] at hcell
 have hb0 := b0.toNat_lt
 have HS := hid hs
 clear hs
 have hk1i : ¬ (b0.toNat : Int) = 1 := by omega
 have hk4i : ¬ (b0.toNat : Int) = 4 := by omega
 subst hx
 simp only [List.length_cons] at hlen
 have hn2 : ¬ (n : Int) < 2 := by omega
 have hn1 : (1 : Int) < (n : Int) := by omega
 have hn1n : 1 < n := by omega
 obtain ⟨_, e1, hab1, hcell1⟩ := HS.out.bytes.spot (k := 1) (by omega)
 injection e1 with e1
 subst e1
 simp only [List.getD_cons_succ, List.getD_cons_zero, Zai] at hcell1
 have hc0 := c0.toNat_lt
 have hk3i : ¬ (b0.toNat : Int) = 3 := by omega
 obtain ⟨at0, hat⟩ : ∃ m, 2 + c0.toNat = m := ⟨_, rfl⟩
 have hwr : IntKind.i64.wrap (2 + (c0.toNat : Int)) = (at0 : Int) := by rw [IntWalk.i64_in _ (by omega)]; omega
 have hge : ¬ (n : Int) < (at0 : Int) := by omega
 have hle : (at0 : Int) ≤ (n : Int) := by omega
 have hlc : (at0 : Int) ≤ (c : Int) := by omega
 have h2a : (2 : Int) ≤ (at0 : Int) := by omega
 have hatn : at0 ≤ n := by omega
 have h2n : 2 ≤ at0 := by omega
 have q2 : (2 : Int) ≤ (c : Int) := by omega
 have hy : refP b0.toNat (c0 :: ys) = ⟨b0.toNat, ys.take c0.toNat, valB ((ys.drop c0.toNat).take 6), 0, valB (((ys.drop c0.toNat).drop 6).take 3), locsR (ys.drop c0.toNat).length ((ys.drop c0.toNat).drop 11), []⟩ := by
  unfold refP
  rw [if_neg hk1i, if_neg hk4i]
  dsimp only
  rw [if_neg hl, if_neg hk3i, if_pos (by rw [List.length_drop]; omega)]
 rw [hy]
 dsimp only
 obtain ⟨ks, hks⟩ : ∃ ks, ys.take c0.toNat = ks := ⟨_, rfl⟩
 rw [hks]
 have p1 : ∀ w', Grows w w' → Sl w' (if c = 2 then some ad else some ⟨ad.block, ad.off + 2, none⟩) (at0 - 2) (c - 2) ks := fun w' hg => by
  by_cases h2c : c = 2
  ·have h := Sl.first (k := at0 - 2) (Sl.behind (k := 2) (HS.out.grow hg) (by omega)) (by omega)
   rw [if_pos h2c] at h
   rw [if_pos h2c]
   rw [← hks]
   simpa [show at0 - 2 = c0.toNat by omega] using h
  ·have h := Sl.part (k := 2) (m := at0) (HS.out.grow hg) (by omega) (by omega) h2c
   rw [if_neg h2c]
   rw [Zai, show at0 - 2 = c0.toNat by omega] at h
   rw [← hks, show at0 - 2 = c0.toNat by omega]
   simpa [← hat, show 2 + c0.toNat - 2 = c0.toNat by omega, show 2 + c0.toNat = c0.toNat + 1 + 1 by omega, List.take_succ_cons] using h
 have p2 : ∀ w', Grows w w' → Sl w' (if c = at0 then some ad else some ⟨ad.block, ad.off + at0, none⟩) (n - at0) (c - at0) (ys.drop c0.toNat) := fun w' hg => by
  have h := Sl.behind (k := at0) (HS.out.grow hg) (by omega)
  rw [show at0 = c0.toNat + 1 + 1 by omega] at *
  rw [Zai] at h
  simpa using h
 have hst := Zu (p1 ((w.alloc (.cells #[.int .i64 0, .string ⟨#[]⟩, .int .i64 0, .int .i64 0, .int .i64 0, .slice none 0 0, .slice none 0 0] 33)).alloc (.cells #[.int .i64 b0.toNat, .string ⟨#[]⟩, .int .i64 0, .int .i64 0, .int .i64 0, .slice none 0 0, .slice none 0 0] 33)) (Grows.trans (Zb _ _) (Zb _ _)))
 have hw11 : IntKind.i64.wrap ((at0 : Int) + 11) = ((at0 + 11 : Nat) : Int) := IntWalk.i64_in _ (by omega)
 have hw6 : IntKind.i64.wrap ((at0 : Int) + 6) = ((at0 + 6 : Nat) : Int) := IntWalk.i64_in _ (by omega)
 have hw9 : IntKind.i64.wrap ((at0 : Int) + 9) = ((at0 + 9 : Nat) : Int) := IntWalk.i64_in _ (by omega)
 have hn11 : ((at0 + 11 : Nat) : Int) ≤ (n : Int) := by omega
 have g1 : (at0 : Int) ≤ ((at0 + 6 : Nat) : Int) := by omega
 have g2 : ((at0 + 6 : Nat) : Int) ≤ (c : Int) := by omega
 have g3 : ((at0 + 6 : Nat) : Int) ≤ ((at0 + 9 : Nat) : Int) := by omega
 have g4 : ((at0 + 9 : Nat) : Int) ≤ (c : Int) := by omega
 have nc1 : ¬ c = at0 := by omega
 have nc2 : ¬ c = at0 + 6 := by omega
 have h2c : ¬ c = 2 := by omega
 have r1 : ∀ w', Grows w w' → Sl w' (some (ad.add at0)) 6 (c - at0) ((ys.drop c0.toNat).take 6) := fun w' hg => by
  have h := Sl.part (k := at0) (m := at0 + 6) (HS.out.grow hg) (by omega) (by omega) nc1
  rw [show at0 + 6 - at0 = 6 by omega] at h
  rw [show (ys.drop c0.toNat).take 6 = ((b0 :: c0 :: ys).take (at0 + 6)).drop at0 by rw [show at0 = c0.toNat + 1 + 1 by omega, List.drop_take]; simp [show c0.toNat + 1 + 1 + 6 - (c0.toNat + 1 + 1) = 6 by omega]]
  exact h
 have r2 : ∀ w', Grows w w' → Sl w' (some (ad.add (at0 + 6))) 3 (c - (at0 + 6)) (((ys.drop c0.toNat).drop 6).take 3) := fun w' hg => by
  have h := Sl.part (k := at0 + 6) (m := at0 + 9) (HS.out.grow hg) (by omega) (by omega) nc2
  rw [show at0 + 9 - (at0 + 6) = 3 by omega] at h
  rw [show ((ys.drop c0.toNat).drop 6).take 3 = ((b0 :: c0 :: ys).take (at0 + 9)).drop (at0 + 6) by rw [show at0 = c0.toNat + 1 + 1 by omega, List.drop_take]; simp [show c0.toNat + 1 + 1 + 9 - (c0.toNat + 1 + 1 + 6) = 3 by omega, show c0.toNat + 1 + 1 + 6 = c0.toNat + 6 + 1 + 1 by omega]]
  exact h
 have HP := hid (And.intro r1 r2)
 obtain ⟨v1, hv1⟩ : ∃ v, valB ((ys.drop c0.toNat).take 6) = v := ⟨_, rfl⟩
 obtain ⟨v2, hv2⟩ : ∃ v, valB (((ys.drop c0.toNat).drop 6).take 3) = v := ⟨_, rfl⟩
 have hN : (ys.drop c0.toNat).length = n - at0 := by rw [List.length_drop]; omega
 obtain ⟨LS, hLS⟩ : ∃ L, locsR (n - at0) ((ys.drop c0.toNat).drop 11) = L := ⟨_, rfl⟩
 rw [hv1, hv2, hN, hLS]
 have HV := hid (And.intro hv1 hv2)
 have HLS := hid hLS
 clear hv1 hv2 hN hLS
 simp only [if_neg h2c] at hst
 have HL := hid (And.intro hlen (And.intro hat hl))
 have HSH := hid hsh
 clear hy p1 p2 hlen hat hl r1 r2 hsh
 go_enter Tryz.func107, Tryz.ntmps107
 go_wp2_with (fail)
 refine (Zaj _ 6 _ ((ys.drop c0.toNat).take 6) _ (HP.out.1 _ (Grows.trans (Zb _ _) (Zb _ _))) (by omega)).mono ?_
 rintro e w1 ⟨rfl, rfl⟩
 rw [HV.out.1]
 go_wp2_with (fail)
 refine (Zaj _ 3 _ (((ys.drop c0.toNat).drop 6).take 3) _ (HP.out.2 _ (Grows.trans (Zb _ _) (Zb _ _))) (by omega)).mono ?_
 rintro e w2 ⟨rfl, rfl⟩
 rw [HV.out.2]
 go_wp2_with (fail)
 have HBW := hid (show Below w.heap.size w ((w.alloc (.cells #[.int .i64 0, .string ⟨#[]⟩, .int .i64 0, .int .i64 0, .int .i64 0, .slice none 0 0, .slice none 0 0] 33)).alloc (.cells #[.int .i64 b0.toNat, .string ⟨ks.toArray⟩, .int .i64 v1, .int .i64 0, .int .i64 v2, .slice none 0 0, .slice none 0 0] 33)) from Grows.trans (Zb _ _) (Zb _ _))
 have HZ := hid ((Zb (w.alloc (.cells #[.int .i64 0, .string ⟨#[]⟩, .int .i64 0, .int .i64 0, .int .i64 0, .slice none 0 0, .slice none 0 0] 33)) (.cells #[.int .i64 b0.toNat, .string ⟨ks.toArray⟩, .int .i64 v1, .int .i64 0, .int .i64 v2, .slice none 0 0, .slice none 0 0] 33)).whole (Whole.made w 33 #[.int .i64 0, .string ⟨#[]⟩, .int .i64 0, .int .i64 0, .int .i64 0, .slice none 0 0, .slice none 0 0]))
 have hr := Whole.made (w.alloc (.cells #[.int .i64 0, .string ⟨#[]⟩, .int .i64 0, .int .i64 0, .int .i64 0, .slice none 0 0, .slice none 0 0] 33)) 33 #[.int .i64 b0.toNat, .string ⟨ks.toArray⟩, .int .i64 v1, .int .i64 0, .int .i64 v2, .slice none 0 0, .slice none 0 0]
 rw [World.size_alloc] at hr
 have HR := hid hr
 clear hr
 go_loopw [5] (fun i wr => ∃ (A : Option Addr) (c1 k J : Nat) (acc : List Lc), J ≤ n ∧ i = .int .i64 (J : Int) ∧ Hid (J = at0 + 11 + 10 * k) ∧ Hid (acc.length = k ∧ acc ++ locsR (n - at0 - k) ((ys.drop c0.toNat).drop (11 + 10 * k)) = LS) ∧ Hid (Whole wr w.heap.size 33 #[.int .i64 0, .string ⟨#[]⟩, .int .i64 0, .int .i64 0, .int .i64 0, .slice none 0 0, .slice none 0 0]) ∧ Hid (Whole wr (w.heap.size + 1) 33 #[.int .i64 b0.toNat, .string ⟨ks.toArray⟩, .int .i64 v1, .int .i64 0, .int .i64 v2, .slice A k c1, .slice none 0 0]) ∧ Hid (wr.ownsRow (w.heap.size + 1 + 1) 105 3 (.slice A k c1) k (lcCells acc)) ∧ Hid (Below w.heap.size w wr)) (fun i _ => n - (intOf i).toNat)
 case atStart => exact ⟨none, 0, 0, at0 + 11, [], by omega, rfl, hid (by omega), hid ⟨rfl, HLS.out⟩, HZ, HR, hid (World.ownsRow_nil _ _ _ _), HBW⟩
 case round =>
  obtain ⟨A, c1, k, J, acc, hk, rfl, HJ, HE, HZ1, HR1, HO1, HB1⟩ := hrel
  have hw10 : IntKind.i64.wrap ((J : Int) + 10) = ((J + 10 : Nat) : Int) := IntWalk.i64_in _ (by omega)
  by_cases hlt : J + 10 ≤ n
  ·have k0 : ((J + 10 : Nat) : Int) ≤ (n : Int) := by omega
   obtain ⟨J4, e4⟩ : ∃ m, m = J + 4 := ⟨_, rfl⟩
   obtain ⟨J8, e8⟩ : ∃ m, m = J + 8 := ⟨_, rfl⟩
   obtain ⟨J10, e10⟩ : ∃ m, m = J + 10 := ⟨_, rfl⟩
   have hw4 : IntKind.i64.wrap ((J : Int) + 4) = (J4 : Int) := by rw [IntWalk.i64_in _ (by omega)]; omega
   have hw8 : IntKind.i64.wrap ((J : Int) + 8) = (J8 : Int) := by rw [IntWalk.i64_in _ (by omega)]; omega
   have hw10b : IntKind.i64.wrap ((J : Int) + 10) = (J10 : Int) := by rw [IntWalk.i64_in _ (by omega)]; omega
   have j0 : (0 : Int) ≤ (J : Int) := by omega
   have j1 : (J : Int) ≤ (J4 : Int) := by omega
   have j2 : (J4 : Int) ≤ (J8 : Int) := by omega
   have j3 : (J8 : Int) ≤ (J10 : Int) := by omega
   have j4 : (J4 : Int) ≤ (c : Int) := by omega
   have j5 : (J8 : Int) ≤ (c : Int) := by omega
   have j6 : (J10 : Int) ≤ (c : Int) := by omega
   have j7 : (J10 : Int) ≤ (n : Int) := by omega
   have i1 : J ≤ J4 := by omega
   have i2 : J4 ≤ J8 := by omega
   have i3 : J8 ≤ J10 := by omega
   have nj0 : ¬ c = J := by omega
   have nj4 : ¬ c = J4 := by omega
   have nj8 : ¬ c = J8 := by omega
   obtain ⟨X, hX⟩ : ∃ X, b0 :: c0 :: ys = X := ⟨_, rfl⟩
   have s1 : ∀ w', Grows w w' → Sl w' (some (ad.add J)) (J4 - J) (c - J) ((X.take J4).drop J) := fun w' hg => by
    have h := Sl.part (k := J) (m := J4) (HS.out.grow hg) (by omega) (by omega) nj0
    rw [hX] at h
    exact h
   have s2 : ∀ w', Grows w w' → Sl w' (some (ad.add J4)) (J8 - J4) (c - J4) ((X.take J8).drop J4) := fun w' hg => by
    have h := Sl.part (k := J4) (m := J8) (HS.out.grow hg) (by omega) (by omega) nj4
    rw [hX] at h
    exact h
   have s3 : ∀ w', Grows w w' → Sl w' (some (ad.add J8)) (J10 - J8) (c - J8) ((X.take J10).drop J8) := fun w' hg => by
    have h := Sl.part (k := J8) (m := J10) (HS.out.grow hg) (by omega) (by omega) nj8
    rw [hX] at h
    exact h
   obtain ⟨u1, hu1⟩ : ∃ u, valB ((X.take J4).drop J) = u := ⟨_, rfl⟩
   obtain ⟨u2, hu2⟩ : ∃ u, valB ((X.take J8).drop J4) = u := ⟨_, rfl⟩
   obtain ⟨u3, hu3⟩ : ∃ u, valB ((X.take J10).drop J8) = u := ⟨_, rfl⟩
   have c3 : ∀ w', Grows w w' → Calls Tryz.prog 132 #[.slice (some (ad.add J8)) (J10 - J8) (c - J8)] w' fun e w2 => e = .returned (.int .i64 u3) ∧ w' = w2 := fun w' hg => by
    have h := Zaj _ _ _ _ w' (s3 w' hg) (by omega)
    rwa [hu3] at h
   have c2 : ∀ w', Grows w w' → Calls Tryz.prog 132 #[.slice (some (ad.add J4)) (J8 - J4) (c - J4)] w' fun e w2 => e = .returned (.int .i64 u2) ∧ w' = w2 := fun w' hg => by
    have h := Zaj _ _ _ _ w' (s2 w' hg) (by omega)
    rwa [hu2] at h
   have c1' : ∀ w', Grows w w' → Calls Tryz.prog 132 #[.slice (some (ad.add J)) (J4 - J) (c - J)] w' fun e w2 => e = .returned (.int .i64 u1) ∧ w' = w2 := fun w' hg => by
    have h := Zaj _ _ _ _ w' (s1 w' hg) (by omega)
    rwa [hu1] at h
   have HX := hid hX
   have HC := hid (And.intro c1' (And.intro c2 c3))
   have HU := hid (And.intro hu1 (And.intro hu2 hu3))
   have HJJ := hid (And.intro e4 (And.intro e8 e10))
   clear c1' c2 c3 e4 e8 e10
   have HRS : Hid (∀ w', Zc (fun g => (Value.slice A k c1).ownBlock = some g) wr w' → Whole w' (w.heap.size + 1) 33 #[.int .i64 b0.toNat, .string ⟨ks.toArray⟩, .int .i64 v1, .int .i64 0, .int .i64 v2, .slice A k c1, .slice none 0 0]) := hid fun w' h => HR1.out.same (h.same _ HR1.out.lt fun e => by have := (HO1.out.lt _ e).1; omega)
   have HZS : Hid (∀ w', Zc (fun g => (Value.slice A k c1).ownBlock = some g) wr w' → Whole w' w.heap.size 33 #[.int .i64 0, .string ⟨#[]⟩, .int .i64 0, .int .i64 0, .int .i64 0, .slice none 0 0, .slice none 0 0]) := hid fun w' h => HZ1.out.same (h.same _ HZ1.out.lt fun e => by have := (HO1.out.lt _ e).1; omega)
   have HBB : Hid (∀ w', Zc (fun g => (Value.slice A k c1).ownBlock = some g) wr w' → Grows w w') := hid fun w' h => Below.trans HB1.out (h.below HB1.out.size fun g hg e => by have := (HO1.out.lt g e).1; omega)
   have HLD : Hid (∀ w', Zc (fun g => (Value.slice A k c1).ownBlock = some g) wr w' → w'.cell? ⟨w.heap.size + 1, 5, none⟩ = some (.slice A k c1)) := hid fun w' h => (HRS.out w' h).cell 5
   have HK6 := hid (show k ≤ 1000000 by have := HJ.out; omega)
   clear hX s1 s2 s3 hu1 hu2 hu3
   go_wp2_with (fail)
   clear hw10
   refine Yh (G := Grows) (E := Zc (fun g => (Value.slice A k c1).ownBlock = some g)) 26 [Zl _ (.pointer (some ⟨w.heap.size + 1, 5, none⟩)), Zl _ (.slice A k c1), Zl _ (.slice (some ad) n c), Zl _ (.int .i64 (J : Int)), Zl _ (.int .i64 (J : Int)), Zl _ (.int .i64 (J4 : Int)), Zl _ (.slice (some (ad.add J)) (J4 - J) (c - J)), Zl _ (.int .i64 u1), Zl _ (.slice (some ad) n c), Zl _ (.int .i64 (J : Int)), Zl _ (.int .i64 (J4 : Int)), Zl _ (.int .i64 (J : Int)), Zl _ (.int .i64 (J8 : Int)), Zl _ (.slice (some (ad.add J4)) (J8 - J4) (c - J4)), Zl _ (.int .i64 u2), Zl _ (.slice (some ad) n c), Zl _ (.int .i64 (J : Int)), Zl _ (.int .i64 (J8 : Int)), Zl _ (.int .i64 (J : Int)), Zl _ (.int .i64 (J10 : Int)), Zl _ (.slice (some (ad.add J8)) (J10 - J8) (c - J8)), Zl _ (.int .i64 u3), Zl _ (.agg #[.int .i64 u1, .int .i64 u2, .int .i64 u3]), Zmy _ (105) (#[.int .i64 u1, .int .i64 u2, .int .i64 u3]) 1, Zqm _ (Option Addr × Nat) (none, 0) (fun p => .slice p.1 (k + 1) p.2) (fun p => fun v => v.ownsRow (w.heap.size + 1 + 1) 105 3 (.slice p.1 (k + 1) p.2) (k + 1) (lcCells (acc ++ [(u1, u2, u3)]))) (fun _ _ _ h g => Zd h g), Zl _ (.pointer (some ⟨w.heap.size + 1, 5, none⟩))] [(false, false), (false, false), (false, false), (false, false), (false, false), (false, false), (false, false), (false, false), (false, false), (false, false), (false, false), (false, false), (false, false), (false, false), (false, false), (false, false), (false, false), (false, false), (false, false), (false, false), (false, false), (false, false), (false, false), (false, false), (true, true), (false, false)] (fun v => v.ownsRow (w.heap.size + 1 + 1) 105 3 (.slice A (k) c1) (k) (lcCells (acc))) rfl mixed (by kernel_rfl) (fun _ _ => Zc.grows) (fun _ _ _ => Zc.trans) (Jd _ _) (Zd HO1.out (Ze _)) (fun _ _ h g => Zd h g) ?_
   simp only [List.take_succ_cons, List.take_zero, List.drop_succ_cons, List.drop_zero]
   refine j_val _ (by rfl) ?_ ?_
   ·intro w' hC; clear hC; go_simp
   simp only [Pu]
   refine j_val _ (by rfl) ?_ ?_
   ·intro w' hC; have hld := HLD.out w' hC; clear hC; go_simp
   simp only [Pu]
   iterate 5
    refine j_val _ (by rfl) ?_ ?_
    ·intro w' hC; clear hC; go_simp
    simp only [Pu]
   refine Zhf 132 #[.slice (some (ad.add J)) (J4 - J) (c - J)] (.int .i64 u1) (by rfl) (by intro w' hC; clear hC; go_simp) ?_ ?_
   ·intro w' hC _; exact (HC.out.1 w' (HBB.out w' hC)).mono fun e w2 ⟨he, hw⟩ => ⟨he, hw ▸ Grows.refl _⟩
   simp only [Pu]
   iterate 6
    refine j_val _ (by rfl) ?_ ?_
    ·intro w' hC; clear hC; go_simp
    simp only [Pu]
   refine Zhf 132 #[.slice (some (ad.add J4)) (J8 - J4) (c - J4)] (.int .i64 u2) (by rfl) (by intro w' hC; clear hC; go_simp) ?_ ?_
   ·intro w' hC _; exact (HC.out.2.1 w' (HBB.out w' hC)).mono fun e w2 ⟨he, hw⟩ => ⟨he, hw ▸ Grows.refl _⟩
   simp only [Pu]
   iterate 6
    refine j_val _ (by rfl) ?_ ?_
    ·intro w' hC; clear hC; go_simp
    simp only [Pu]
   refine Zhf 132 #[.slice (some (ad.add J8)) (J10 - J8) (c - J8)] (.int .i64 u3) (by rfl) (by intro w' hC; clear hC; go_simp) ?_ ?_
   ·intro w' hC _; exact (HC.out.2.2 w' (HBB.out w' hC)).mono fun e w2 ⟨he, hw⟩ => ⟨he, hw ▸ Grows.refl _⟩
   simp only [Pu]
   refine j_val _ (by rfl) ?_ ?_
   ·intro w' hC; clear hC; go_simp
   simp only [Pu]
   refine Zqo (105) (#[.int .i64 u1, .int .i64 u2, .int .i64 u3]) 1 (fun g e => (HO1.out.lt g e).2) (by rfl) ?_ ?_
   ·intro w' hC; clear hC; go_simp
   intro gl
   simp only [Pu]
   refine Zsc (by rfl) (fun w' hC hcls hk => ?_) ?_
   ·obtain ⟨A', c', w'', hrun, ho, hg⟩ := Zet (ty := 30) hcls (u1, u2, u3) (Known.get hk 0 rfl (by rfl)).1 HK6.out (by have := hC.size; have := HR1.out.lt; omega)
    exact ⟨(A', c'), w'', Zp9 rfl rfl rfl hrun, ⟨hg.os, hg.tape, hg.output, hg.size, fun q hq hn => hg.block q hq fun e => hn e.symm⟩, ho⟩
   rintro ⟨A5, c5⟩
   dsimp only
   simp only [Pu]
   refine j_val _ (by rfl) ?_ ?_
   ·intro w' hC; clear hC; go_simp
   simp only [Pu]
   refine Zcv ?_
   intro w9 hC hks hcls
   have HCw9 := hid hC
   have HLw9 := hid hcls
   clear hC hks hcls
   have hld9 : w9.cell? ⟨w.heap.size + 1, 5, none⟩ = some (.slice A k c1) := HLD.out w9 HCw9.out
   have hfz9 : w9.frozen? ⟨w.heap.size + 1, 5, none⟩ = false := (HRS.out w9 HCw9.out).free 5
   go_wp2_with (fail)
   go_roundw
   case rel =>
    refine ⟨A5, c5, k + 1, J10, acc ++ [(u1, u2, u3)], by omega, rfl, hid (by have := HJJ.out.2.2; have := HJ.out; omega), hid ⟨by simp [HE.out.1], Zob HX.out HL.out.2.1 (by have := HL.out.1; omega) HJ.out HJJ.out.1 HJJ.out.2.1 HJJ.out.2.2 (by omega) HU.out.1 HU.out.2.1 HU.out.2.2 HE.out.2⟩, hid ((HZS.out w9 HCw9.out).elsewhere (by show w.heap.size ≠ w.heap.size + 1; omega) _), hid ?_, hid (Zz HLw9.out (Turns.set (g := w.heap.size + 1) 5 _) (by omega)), hid (Below.trans (HBB.out w9 HCw9.out) (Below.mono ((Turns.set (g := w.heap.size + 1) 5 _).below (by have := (HRS.out w9 HCw9.out).lt; omega)) (by omega)))⟩
    have h := (HRS.out w9 HCw9.out).put 5 (.slice A5 (k + 1) c5)
    simp only [List.setIfInBounds_toArray, List.set_cons_zero, List.set_cons_succ] at h
    exact h
   case measure => have := HJJ.out.2.2; simp [intOf]; omega
  ·have k0 : ¬ ((J + 10 : Nat) : Int) ≤ (n : Int) := by omega
   have hz1 := HZ1.out
   have hr1 := HR1.out
   have zc0 := hz1.cell 0
   have zf0 := hz1.free 0
   have zc1 := hz1.cell 1
   have zf1 := hz1.free 1
   have zc2 := hz1.cell 2
   have zf2 := hz1.free 2
   have zc3 := hz1.cell 3
   have zf3 := hz1.free 3
   have zc4 := hz1.cell 4
   have zf4 := hz1.free 4
   have zc5 := hz1.cell 5
   have zf5 := hz1.free 5
   have zc6 := hz1.cell 6
   have zf6 := hz1.free 6
   have rc0 := hr1.cell 0
   have rf0 := hr1.free 0
   have rc1 := hr1.cell 1
   have rf1 := hr1.free 1
   have rc2 := hr1.cell 2
   have rf2 := hr1.free 2
   have rc3 := hr1.cell 3
   have rf3 := hr1.free 3
   have rc4 := hr1.cell 4
   have rf4 := hr1.free 4
   have rc5 := hr1.cell 5
   have rf5 := hr1.free 5
   have rc6 := hr1.cell 6
   have rf6 := hr1.free 6
   simp only [Gt] at zc0 zc1 zc2 zc3 zc4 zc5 zc6 rc0 rc1 rc2 rc3 rc4 rc5 rc6
   clear hz1 hr1
   have he : acc = LS := by
    have h := HE.out.2
    have hd : ((ys.drop c0.toNat).drop (11 + 10 * k)).length < 10 := by have := HJ.out; have := HL.out.1; have := HL.out.2.1; have := HL.out.2.2; simp only [List.length_drop]; omega
    generalize (ys.drop c0.toNat).drop (11 + 10 * k) = r at *
    cases hq : n - at0 - k with
    | zero => rw [hq, locsR, List.append_nil] at h; exact h
    | succ q => rw [hq, locsR, if_neg (by omega), List.append_nil] at h; exact h
   have HEQ := hid he
   clear he
   go_wp2_with (fail)
   obtain ⟨W, hW, hwh, hwt⟩ := Ya HZ1.out (.int .i64 b0.toNat) (.string ⟨ks.toArray⟩) (.int .i64 v1) (.int .i64 0) (.int .i64 v2) (.slice A k c1) (.slice none 0 0)
   rw [hW]
   have HWB := hid hwt
   clear hW hwt
   refine bodyPost_ret (results_cell_row rfl _ _ w.heap.size _ _ (0, 0) _ rfl hwh Tryz.underlying33 rfl (by kernel_rfl)) rfl ?_
   exact ⟨A, k, c1, none, 0, 0, rfl, ⟨HEQ.out ▸ Zj (Zz HO1.out HWB.out (by omega)) (by omega), HEQ.out ▸ HE.out.1, World.ownsRow_nil _ _ _ _⟩, Below.trans HB1.out (HWB.out.below (by have := HZ1.out.lt; omega))⟩
end Go.Proofs.YtlldcogkcjnejaaGreat
