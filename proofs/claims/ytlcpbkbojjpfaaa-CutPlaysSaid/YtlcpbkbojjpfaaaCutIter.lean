/-
  The iterator of package cut: full pieces, one by one, each handed to a round.
-/
import Derived.Test.YtlcpbkbojjpfaaaCutAt
import Derived.Test.YtlcpbkbojjpfaaaFactsTailIn
import Derived.Test.YtlcpbkbojjpfaaaJobSteps
import Derived.Deep.RegionHeld3
import Derived.OwnWalkIn
import Derived.TacticsInMore
import Derived.LoopNIn
import Derived.LoopIn
namespace Go.Proofs.Ytlcpbkbojjpfaaa
open Go.RowKit
set_option linter.unusedVariables false
set_option linter.unusedSimpArgs false
attribute [local go_sem] Oper.semAt_some

/-- How much of b there is still. -/
def leftOf (w : World) (b : Nat) : Nat := match w.cell? ⟨b, 0, none⟩ with | some (.slice _ n _) => n | _ => 0

theorem step_append_row {ops : Array Oper} {o : Oper} {a : Act} {w : World} {K : Act → World → Prop} {Q : Exit → Act → World → Prop} {E : Prop} (hgd : o.guard = none) (s x : Operand)
    (ho : o.op = .call { callee := .builtin .append, args := #[s, x], argTypes := #[23, 23] })
    {base : Nat} {A0 : Option Addr} {n c0 : Nat} {xs : List UInt8} (hs : a.eval s = .slice A0 n c0) (hown : w.ownsRow base 5 1 (.slice A0 n c0) n (xs.map byteV))
    {A : Option Addr} {m c : Nat} {ys : List UInt8} (hx : a.eval x = .slice A m c) (hr : Sl w A m c ys) (hk2 : n + m ≤ 140737488351232) (hbase : base ≤ w.heap.size)
    (hk : ∀ A' c' w', w'.ownsRow base 5 1 (.slice A' (n + m) c') (n + m) ((xs ++ ys).map byteV) → w.grownBy w' (Value.slice A0 n c0).ownBlock →
      ((Value.slice A' (n + m) c').ownBlock = (Value.slice A0 n c0).ownBlock ∨ (Value.slice A' (n + m) c').ownBlock = some w.heap.size) → K (a.put o.dst (.slice A' (n + m) c')) w') :
    if Region.wanted o (yielded ops a.tmps) = true then Oper.wp Try.prog o a w K Q else E := by
  have hw : Region.wanted o (yielded ops a.tmps) = true := by simp [Region.wanted, hgd]
  rw [if_pos hw]
  obtain ⟨i0, hi, hz0, hz1, hz2⟩ := info_parts infoU8
  obtain ⟨v', w', hrun, h2, h3, h4⟩ := run_append_row (P := Try.prog) (ty := o.type) Try.underlying23 hi hz0 hz1 hz2 rfl hown hr.bytes hr.bare (byteV_one ys) (by unfold maxLen; omega) (by omega) hbase
  obtain ⟨A', c', rfl, _⟩ := slice_of_owned h2
  rw [← List.map_append] at h2
  unfold Oper.wp execOp
  simp only [ho, resolve, invoke, builtin, Sem.run_bind, Sem.run_pure, Result.andThen_ok, List.map_toArray, List.map_cons, List.map_nil, hs, hx, hrun]
  exact hk A' c' w' h2 h3 h4

theorem round_wideC {P : Program} {n k l f : Nat} {tmps : Array Value} {assign body : Code} {w : World} {R : Ending → World → Prop} (h : RoundIn Fence.wide n P l f tmps assign body w R) : RoundIn Fence.wide k P l f tmps assign body w R :=
  ⟨h.1, fun c cs _ => h.2 c cs fun d hd => by cases hd⟩

set_option maxRecDepth 100000 in
set_option maxHeartbeats 4000000 in
theorem full_gives (n : Nat) (Bt Bb g base P Z : Nat) (v0 : Value) (A : Option Addr) (N c : Nat) (L bs : List UInt8) (w : World) (ht : Boxed w Bt 44 (.pointer (some ⟨g, 0, none⟩))) (hb : Boxed w Bb 23 (.slice A N c))
    (hc : CutHas w g base P Z v0 L) (hs : Sl w A N c bs) (hA : 0 < N → ∀ ad, A = some ad → ad.block ≠ g ∧ ad.block ≠ Bb ∧ v0.ownBlock ≠ some ad.block ∧ ad.block < w.heap.size) (hgb : v0.ownBlock ≠ some Bt ∧ v0.ownBlock ≠ some Bb ∧ Bb ≠ Bt)
    (hP : P ≤ 4096) (hN : N ≤ 140737488000000) (hbase : base ≤ w.heap.size) :
    GivesM Try.prog n 70 #[.pointer (some ⟨Bb, 0, none⟩), .pointer (some ⟨Bt, 0, none⟩)] hdVals (ownC g Bb v0) (ToldC base P v0 (L ++ bs))
      (fun k => k = g ∨ k = Bb ∨ k = Bt ∨ (k ≠ g ∧ k ≠ Bb ∧ v0.ownBlock ≠ some k ∧ k < w.heap.size ∧ ∃ ad, A = some ad ∧ 0 < N ∧ k = ad.block)) (LeftC g base P Z v0 (L ++ bs)) (fun _ => True) w := by
  intro l J Jx W hW hJ hJx hY h0
  have mixed : Try.prog.follows .mixedOrders = true := by kernel_rfl
  obtain ⟨i0, hi0, hz0, hz1, hz2⟩ := info_parts infoU8
  have HI := Lib.hid (And.intro hi0 (And.intro hz0 (And.intro hz1 hz2)))
  clear hi0 hz0 hz1 hz2
  obtain ⟨LA0, lc0, rfl, hL0⟩ := hc.slice
  have hc' := hc.grow hW
  have htW : Boxed W Bt _ _ := (hW.block _ ht.lt).trans ht
  have hbW : Boxed W Bb _ _ := (hW.block _ hb.lt).trans hb
  have HF : Hid (∀ k, (k ≠ g ∧ k ≠ Bb ∧ (Value.slice LA0 L.length lc0).ownBlock ≠ some k ∧ k < w.heap.size ∧ ∃ ad, A = some ad ∧ 0 < N ∧ k = ad.block) → ∀ A0 : World, w.heap.size ≤ A0.heap.size → k ≠ g ∧ k ≠ Bb ∧ (Value.slice LA0 L.length lc0).ownBlock ≠ some k ∧ k < A0.heap.size) :=
    Lib.hid fun k ⟨h1, h2, h3, h4, h5⟩ A0 hz => ⟨h1, h2, h3, by omega⟩
  have hne : g ≠ Bb ∧ g ≠ Bt := by
    constructor
    · rintro rfl
      have h1 := hc.cells
      unfold Whole at h1
      rw [hb] at h1
      injection h1 with h1
      injection h1 with _ h1 _
      exact absurd h1 (by decide)
    · rintro rfl
      have h1 := hc.cells
      unfold Whole at h1
      rw [ht] at h1
      injection h1 with h1
      injection h1 with _ h1 _
      exact absurd h1 (by decide)
  have hAt : AtC g base P Z Bt Bb (.slice LA0 L.length lc0) (L ++ bs) (fun k => k ≠ g ∧ k ≠ Bb ∧ (Value.slice LA0 L.length lc0).ownBlock ≠ some k ∧ k < w.heap.size ∧ ∃ ad, A = some ad ∧ 0 < N ∧ k = ad.block) [] W W L.length L.length LA0 lc0 N A c :=
    ⟨rfl, by simp, by rw [List.length_append, hs.len], Nat.le_of_lt hc.short, hc'.cells, by simpa using hc'.left, fun k hk => .inl ⟨rfl, hk⟩, htW, hbW, by simpa using hs.grow hW, fun ad hd hN => ⟨(hA hN ad hd).1, (hA hN ad hd).2.1, (hA hN ad hd).2.2.1, (hA hN ad hd).2.2.2, ad, hd, hN, rfl⟩, Spares.refl _ _, Nat.le_trans hbase hW.size⟩
  have HAT := Lib.hid hAt
  have HGB : Hid (∀ A0 : World, w.heap.size ≤ A0.heap.size → g ≠ Bb ∧ g ≠ Bt ∧ Bb ≠ Bt ∧ Bt < A0.heap.size ∧ Bb < A0.heap.size ∧ (Value.slice LA0 L.length lc0).ownBlock ≠ some Bt ∧ (Value.slice LA0 L.length lc0).ownBlock ≠ some Bb ∧ (Value.slice LA0 L.length lc0).ownBlock ≠ some g) := Lib.hid fun A0 hz => ⟨hne.1, hne.2, hgb.2.2, Nat.lt_of_lt_of_le ht.lt hz, Nat.lt_of_lt_of_le hb.lt hz, hgb.1, hgb.2.1, hc.apart⟩
  have HSH := Lib.hid hc.short
  have HWS := Lib.hid hW.size
  have HT := Lib.hid (show L.length < P by have := hc.short; omega)
  have HTL := Lib.hid (show (L ++ bs).length ≤ 140737488010000 by have := hc.short; rw [List.length_append, hs.len]; omega)
  have HN0 := Lib.hid hL0
  clear hAt hc hc' htW hbW ht hb hs hA hgb hne hbase hL0 hW
  generalize hv0 : (Value.slice LA0 L.length lc0) = v0 at *
  have HV0 := Lib.hid hv0
  clear hv0
  generalize L ++ bs = T at *
  show CallsIn _ _ _ _ #[.func (.yield l) #[] #[], .pointer (some ⟨Bb, 0, none⟩), .pointer (some ⟨Bt, 0, none⟩)] _ _
  refine callsIn_of_wp Try.func70 rfl trivial ?_ rfl
  simp only [Try.ntmps70, List.size_toArray, List.length_cons, List.length_nil, Nat.reduceAdd, Nat.reduceSub, Array.replicate_succ, Array.replicate_zero, List.push_toArray, List.append_toArray, List.nil_append, List.cons_append]
  gi_wp2_with (fail)
  gi_loopw [4] (fun i wr => ∃ (pre : List Xp) (A0 : World) (q m : Nat) (LA : Option Addr) (lc nb : Nat) (BA : Option Addr) (bc : Nat), m < P ∧ Hid (J pre A0) ∧ Hid (w.heap.size ≤ A0.heap.size) ∧
    Hid (AtC g base P Z Bt Bb v0 T (fun k => k ≠ g ∧ k ≠ Bb ∧ v0.ownBlock ≠ some k ∧ k < w.heap.size ∧ ∃ ad, A = some ad ∧ 0 < N ∧ k = ad.block) pre A0 wr q m LA lc nb BA bc)) (fun _ wr => leftOf wr Bb)
  case atStart => exact ⟨[], W, _, _, LA0, lc0, N, A, c, HT.out, Lib.hid h0, HWS, HAT⟩
  case round =>
    obtain ⟨pre, A0, q, m, LA, lc, nb, BA, bc, hm, HJ, HZ, HA⟩ := hrel
    have hlo : leftOf wr Bb = nb := by unfold leftOf; rw [HA.out.src.cell]
    have HLO := Lib.hid hlo
    clear hlo
    have cb := HA.out.src.cell
    by_cases hnb : nb = 0
    · subst hnb
      gi_wp2_with (fail)
      go_end0
      exact ⟨⟨_, rfl⟩, .inl ⟨pre, A0, HJ.out, HA.out.spares, HA.out.ends (by omega) hm⟩⟩
    · obtain ⟨ad, rfl⟩ : ∃ ad, BA = some ad := by
        obtain ⟨ad, h, _⟩ := HA.out.rest.bytes.spot (k := 0) (by omega)
        exact ⟨ad, h⟩
      obtain ⟨k, hk⟩ : ∃ k, k = min (P - m) nb := ⟨_, rfl⟩
      have hk1 : 0 < k := by omega
      have hk2 : k ≤ nb := by omega
      have hk3 : m + k ≤ P := by omega
      have hk4 : m + k = P ∨ k = nb := by omega
      have hmin : (if (nb : Int) < (P : Int) - (m : Int) then (nb : Int) else (P : Int) - (m : Int)) = (k : Int) := by split <;> omega
      have HMIN := Lib.hid hmin
      have HK := Lib.hid (And.intro hk hk4)
      have HSUB := Lib.hid (IntWalk.i64_in ((P : Int) - (m : Int)) (by omega))
      clear hk hk4 hmin
      have hd : decide ((nb : Int) > 0) = true := by simp; omega
      have HC : Hid (∀ w', Grows wr w' → w'.cell? ⟨Bt, 0, none⟩ = some (.pointer (some ⟨g, 0, none⟩)) ∧ w'.cell? ⟨g, 0, none⟩ = some (.int .i64 (P : Nat)) ∧ w'.cell? ⟨g, 2, none⟩ = some (.slice LA m lc) ∧ w'.cell? ⟨Bb, 0, none⟩ = some (.slice (some ad) nb bc)) := Lib.hid fun w' hw => by
        have h := HA.out.grow hw
        have c0 := h.cut.cell 0
        have c2 := h.cut.cell 2
        simp only [List.getElem?_toArray, List.getElem?_cons_zero, List.getElem?_cons_succ] at c0 c2
        exact ⟨h.ptr.cell, c0, c2, h.src.cell⟩
      gi_wp2_with (fail)
      refine wpIn_wide.2 ?_
      refine q_region (by kernel_rfl) (by kernel_rfl) ?_
      refine q_op (.pointer (some ⟨g, 0, none⟩)) (by rfl) ?_ ?_
      · intro w' hC; obtain ⟨ct, cp, cl, cb⟩ := HC.out w' hC; clear hC; go_simp
      simp only [Act.put, List.setIfInBounds_toArray, List.set_cons_zero, List.set_cons_succ]
      refine q_op (.pointer (some ⟨g, 0, none⟩)) (by rfl) ?_ ?_
      · intro w' hC; clear hC; go_simp
      simp only [Act.put, List.setIfInBounds_toArray, List.set_cons_zero, List.set_cons_succ]
      refine q_op (.pointer (some ⟨g, 0, none⟩)) (by rfl) ?_ ?_
      · intro w' hC; clear hC; go_simp
      simp only [Act.put, List.setIfInBounds_toArray, List.set_cons_zero, List.set_cons_succ]
      refine q_op (.int .i64 (P : Nat)) (by rfl) ?_ ?_
      · intro w' hC; obtain ⟨ct, cp, cl, cb⟩ := HC.out w' hC; clear hC; go_simp
      simp only [Act.put, List.setIfInBounds_toArray, List.set_cons_zero, List.set_cons_succ]
      refine q_op (.pointer (some ⟨g, 0, none⟩)) (by rfl) ?_ ?_
      · intro w' hC; obtain ⟨ct, cp, cl, cb⟩ := HC.out w' hC; clear hC; go_simp
      simp only [Act.put, List.setIfInBounds_toArray, List.set_cons_zero, List.set_cons_succ]
      refine q_op (.pointer (some ⟨g, 0, none⟩)) (by rfl) ?_ ?_
      · intro w' hC; clear hC; go_simp
      simp only [Act.put, List.setIfInBounds_toArray, List.set_cons_zero, List.set_cons_succ]
      refine q_op (.pointer (some ⟨g, 2, none⟩)) (by rfl) ?_ ?_
      · intro w' hC; clear hC; go_simp
      simp only [Act.put, List.setIfInBounds_toArray, List.set_cons_zero, List.set_cons_succ]
      refine q_op (.slice LA m lc) (by rfl) ?_ ?_
      · intro w' hC; obtain ⟨ct, cp, cl, cb⟩ := HC.out w' hC; clear hC; go_simp
      simp only [Act.put, List.setIfInBounds_toArray, List.set_cons_zero, List.set_cons_succ]
      refine q_op (.int .i64 (m : Nat)) (by rfl) ?_ ?_
      · intro w' hC; clear hC; go_simp
      simp only [Act.put, List.setIfInBounds_toArray, List.set_cons_zero, List.set_cons_succ]
      refine q_op (.int .i64 ((P : Int) - (m : Int))) (by rfl) ?_ ?_
      · intro w' hC; have hs := HSUB.out; clear hC; go_simp
      simp only [Act.put, List.setIfInBounds_toArray, List.set_cons_zero, List.set_cons_succ]
      refine q_op (.slice (some ad) nb bc) (by rfl) ?_ ?_
      · intro w' hC; obtain ⟨ct, cp, cl, cb⟩ := HC.out w' hC; clear hC; go_simp
      simp only [Act.put, List.setIfInBounds_toArray, List.set_cons_zero, List.set_cons_succ]
      refine q_op (.int .i64 (nb : Nat)) (by rfl) ?_ ?_
      · intro w' hC; clear hC; go_simp
      simp only [Act.put, List.setIfInBounds_toArray, List.set_cons_zero, List.set_cons_succ]
      refine q_op (.int .i64 (k : Nat)) (by rfl) ?_ ?_
      · intro w' hC; clear hC; (go_simp; exact HMIN.out)
      simp only [Act.put, List.setIfInBounds_toArray, List.set_cons_zero, List.set_cons_succ]
      refine q_op (.int .i64 (k : Nat)) (by rfl) ?_ ?_
      · intro w' hC; clear hC; go_simp
      simp only [Act.put, List.setIfInBounds_toArray, List.set_cons_zero, List.set_cons_succ]
      refine wpQuiet_nil ?_
      intro w1 hC
      have HA1 := Lib.hid (HA.out.grow hC)
      clear hC HC
      gi_wp2_with (fail)
      refine wpIn_wide.2 ?_
      have k0 : (0 : Int) ≤ (k : Int) := by omega
      have kc : (k : Int) ≤ (bc : Int) := by have := HA1.out.rest.cap; omega
      have hkeep := HA1.out.away (fun k hk => HF.out k hk A0 HZ.out) (HGB.out A0 HZ.out) (by omega)
      have HC1 : Hid (∀ w', Spares (fun k => (Value.slice LA m lc).ownBlock = some k) w1 w' → w'.cell? ⟨Bt, 0, none⟩ = some (.pointer (some ⟨g, 0, none⟩)) ∧ w'.cell? ⟨g, 0, none⟩ = some (.int .i64 (P : Nat)) ∧ w'.cell? ⟨g, 2, none⟩ = some (.slice LA m lc) ∧ w'.cell? ⟨Bb, 0, none⟩ = some (.slice (some ad) nb bc)) := Lib.hid fun w' hw => hkeep.1 w' hw
      have HSL : Hid (∀ w', Spares (fun k => (Value.slice LA m lc).ownBlock = some k) w1 w' → Sl w' (some ad) k bc ((T.drop q).take k)) := Lib.hid fun w' hw => (hkeep.2 w' hw).first hk2
      have HSB : Hid ((some ad : Option Addr) = none → bc = 0) := Lib.hid HA1.out.rest.bare
      have HBS := Lib.hid (Nat.le_trans HA1.out.base HA1.out.spares.size)
      have HKP := Lib.hid (HA1.out.away2 (fun k hk => HF.out k hk A0 HZ.out) (HGB.out A0 HZ.out))
      clear hkeep
      refine wp_region_jobs (G := Grows) (E := Spares (fun k => (Value.slice LA m lc).ownBlock = some k)) 11 [valJob (fun k => (Value.slice LA m lc).ownBlock = some k) (.pointer (some ⟨g, 0, none⟩)), valJob (fun k => (Value.slice LA m lc).ownBlock = some k) (.pointer (some ⟨g, 0, none⟩)), valJob (fun k => (Value.slice LA m lc).ownBlock = some k) (.pointer (some ⟨g, 0, none⟩)), valJob (fun k => (Value.slice LA m lc).ownBlock = some k) (.pointer (some ⟨g, 2, none⟩)), valJob (fun k => (Value.slice LA m lc).ownBlock = some k) (.slice LA m lc), valJob (fun k => (Value.slice LA m lc).ownBlock = some k) (.slice (some ad) nb bc), valJob (fun k => (Value.slice LA m lc).ownBlock = some k) (.int .i64 (k : Nat)), valJob (fun k => (Value.slice LA m lc).ownBlock = some k) (.slice (some ad) k bc), appJob (fun k => (Value.slice LA m lc).ownBlock = some k) base 5 (.slice LA m lc) w1.heap.size (m + k) (((T.drop (pre.length * P)).take m ++ (T.drop q).take k).map byteV), valJob (fun k => (Value.slice LA m lc).ownBlock = some k) (.pointer (some ⟨g, 0, none⟩)), valJob (fun k => (Value.slice LA m lc).ownBlock = some k) (.pointer (some ⟨g, 2, none⟩))] [(false, false), (false, false), (false, false), (false, false), (false, false), (false, false), (false, false), (false, false), (true, true), (false, false), (false, false)] (fun w => w.ownsRow base 5 1 (.slice LA m lc) m (((T.drop (pre.length * P)).take m).map byteV)) rfl mixed (by kernel_rfl) (fun _ _ => Spares.grows) (fun _ _ _ => Spares.trans) (spares_drew _ _) (owned_same HA1.out.left fun _ _ => rfl) (fun _ _ h g => owned_grow h g) ?_
      simp only [List.take_succ_cons, List.take_zero, List.drop_succ_cons, List.drop_zero]
      refine j_val (.pointer (some ⟨g, 0, none⟩)) (by rfl) ?_ ?_
      · intro w' hC; obtain ⟨ct, cp, cl, cb⟩ := HC1.out w' hC; clear hC; go_simp
      simp only [Act.put, List.setIfInBounds_toArray, List.set_cons_zero, List.set_cons_succ]
      refine j_val (.pointer (some ⟨g, 0, none⟩)) (by rfl) ?_ ?_
      · intro w' hC; obtain ⟨ct, cp, cl, cb⟩ := HC1.out w' hC; clear hC; go_simp
      simp only [Act.put, List.setIfInBounds_toArray, List.set_cons_zero, List.set_cons_succ]
      refine j_val (.pointer (some ⟨g, 0, none⟩)) (by rfl) ?_ ?_
      · intro w' hC; clear hC; go_simp
      simp only [Act.put, List.setIfInBounds_toArray, List.set_cons_zero, List.set_cons_succ]
      refine j_val (.pointer (some ⟨g, 2, none⟩)) (by rfl) ?_ ?_
      · intro w' hC; clear hC; go_simp
      simp only [Act.put, List.setIfInBounds_toArray, List.set_cons_zero, List.set_cons_succ]
      refine j_val (.slice LA m lc) (by rfl) ?_ ?_
      · intro w' hC; obtain ⟨ct, cp, cl, cb⟩ := HC1.out w' hC; clear hC; go_simp
      simp only [Act.put, List.setIfInBounds_toArray, List.set_cons_zero, List.set_cons_succ]
      refine j_val (.slice (some ad) nb bc) (by rfl) ?_ ?_
      · intro w' hC; obtain ⟨ct, cp, cl, cb⟩ := HC1.out w' hC; clear hC; go_simp
      simp only [Act.put, List.setIfInBounds_toArray, List.set_cons_zero, List.set_cons_succ]
      refine j_val (.int .i64 (k : Nat)) (by rfl) ?_ ?_
      · intro w' hC; clear hC; go_simp
      simp only [Act.put, List.setIfInBounds_toArray, List.set_cons_zero, List.set_cons_succ]
      refine j_val (.slice (some ad) k bc) (by rfl) ?_ ?_
      · intro w' hC; clear hC; go_simp
      simp only [Act.put, List.setIfInBounds_toArray, List.set_cons_zero, List.set_cons_succ]
      refine j_append (by rfl) (.tmp 25) (.tmp 28) 23 rfl (B := w1.heap.size) Try.underlying23 HI.out.1 HI.out.2.1 HI.out.2.2.1 HI.out.2.2.2 rfl rfl (.slice LA m lc) (fun w' h => ⟨h, .inl rfl⟩) (Nat.le_refl _) (fun _ h => h) (fun _ _ _ h _ => h) rfl (fun w' hC _ => ⟨_, (HSL.out w' hC).bytes⟩) HSB.out (byteV_one _) (m + k) rfl (((T.drop (pre.length * P)).take m ++ (T.drop q).take k).map byteV) List.map_append.symm (by unfold maxLen; omega) (by omega) HBS.out (fun _ _ _ _ h _ => h) ?_
      intro LA1 lc1
      simp only [Act.put, List.setIfInBounds_toArray, List.set_cons_zero, List.set_cons_succ]
      refine j_val (.pointer (some ⟨g, 0, none⟩)) (by rfl) ?_ ?_
      · intro w' hC; clear hC; go_simp
      simp only [Act.put, List.setIfInBounds_toArray, List.set_cons_zero, List.set_cons_succ]
      refine j_val (.pointer (some ⟨g, 2, none⟩)) (by rfl) ?_ ?_
      · intro w' hC; clear hC; go_simp
      simp only [Act.put, List.setIfInBounds_toArray, List.set_cons_zero, List.set_cons_succ]
      refine wpJ_end ?_
      intro w2 hC hks hcls
      have HCw2 := Lib.hid hC
      have HLw2 := Lib.hid hcls
      clear hC hks hcls
      obtain ⟨hw2, hb2⟩ := HKP.out w2 HCw2.out
      have c2 := hw2.cell 2
      have f2 := hw2.free 2
      simp only [List.getElem?_toArray, List.getElem?_cons_zero, List.getElem?_cons_succ] at c2
      obtain ⟨X, hX⟩ : ∃ X, w2.setCell ⟨g, 2, none⟩ (.slice LA1 (m + k) lc1) = X := ⟨_, rfl⟩
      have hbX : Boxed X Bb 23 (.slice (some ad) nb bc) := hX ▸ Whole.elsewhere (show Whole w2 Bb 23 #[.slice (some ad) nb bc] from hb2) (p := ⟨g, 2, none⟩) (fun e => (HGB.out A0 HZ.out).1 e.symm) _
      have cX := hbX.cell
      have fX := hbX.frozen
      have HXE := Lib.hid hX
      have kn : (k : Int) ≤ (nb : Int) := by omega
      have nn : (nb : Int) ≤ (bc : Int) := by have := HA1.out.rest.cap; omega
      clear hw2 hb2 hX hbX
      have hput := (HA1.out.putX (fun k hk => HF.out k hk A0 HZ.out) (HGB.out A0 HZ.out) hk1 hk2 hk3 HLw2.out.1 HCw2.out HLw2.out.2)
      have HPUT := Lib.hid hput
      clear hput cb
      by_cases hck : bc = k
      · obtain rfl : nb = bc := by omega
        obtain rfl : nb = k := hck
        have hY' := HPUT.out.1 rfl
        rw [HXE.out, Nat.sub_self] at hY'
        have HY' := Lib.hid hY'
        clear hY' HPUT
        go_wp2_with (first | rw [HXE.out] | fail)
        gi_wp2_with (fail)
        have hAY := HY'.out
        clear HY'
        have hz : 0 < nb := hk1
        have hq4 : m + nb = P ∨ 0 = 0 := .inr rfl
        have hlt : 0 < nb := hk1
        generalize X.setCell ⟨Bb, 0, none⟩ _ = Y at *
        by_cases hfull : m + nb = P
        · rw [hfull] at hAY ⊢
          have HC4 : Hid (∀ w', Spares (fun k => k = g) Y w' → w'.cell? ⟨Bt, 0, none⟩ = some (.pointer (some ⟨g, 0, none⟩))) := Lib.hid fun w' hw => Boxed.cell ((hw.same _ hAY.ptr.lt fun e => (HGB.out A0 HZ.out).2.1 e.symm).trans hAY.ptr)
          have HAY := Lib.hid hAY
          clear hAY
          refine wpIn_region_jobs (G := Grows) (E := Spares (fun k => k = g)) 14 [valJob (fun k => k = g) (.pointer (some ⟨g, 0, none⟩)), valJob (fun k => k = g) (.pointer (some ⟨g, 0, none⟩)), valJob (fun k => k = g) (.pointer (some ⟨g, 2, none⟩)), rdJob (fun k => k = g) (.slice LA1 P lc1), valJob (fun k => k = g) (.int .i64 ((P : Nat) : Int)), valJob (fun k => k = g) (.pointer (some ⟨g, 0, none⟩)), valJob (fun k => k = g) (.pointer (some ⟨g, 0, none⟩)), valJob (fun k => k = g) (.pointer (some ⟨g, 0, none⟩)), rdJob (fun k => k = g) (.int .i64 (P : Nat)), valJob (fun k => k = g) (.bool true), valJob (fun k => k = g) (.bool true), valJob (fun k => k = g) (.func (.yield l) #[] #[]), valJob (fun k => k = g) (.pointer (some ⟨g, 0, none⟩)), wrJob (fun k => k = g) (.slice LA1 P lc1) (fun w => Whole w g 89 #[.int .i64 (P : Nat), .int .i64 (Z : Nat), .slice none 0 0]) (fun _ _ h g => (g.block _ h.lt).trans h)] [(false, false), (false, false), (false, false), (true, false), (false, false), (false, false), (false, false), (false, false), (true, false), (false, false), (false, false), (false, false), (false, false), (true, true)] (fun w => Whole w g 89 #[.int .i64 (P : Nat), .int .i64 (Z : Nat), .slice LA1 P lc1]) rfl mixed (by kernel_rfl) (fun _ _ => Spares.grows) (fun _ _ _ => Spares.trans) (spares_drew _ _) (HAY.out.cut) (fun _ _ h g => (g.block _ h.lt).trans h) ?_
          simp only [List.take_succ_cons, List.take_zero, List.drop_succ_cons, List.drop_zero]
          refine j_val (.pointer (some ⟨g, 0, none⟩)) (by rfl) ?_ ?_
          · intro w' hC; have ct := HC4.out w' hC; clear hC; go_simp
          simp only [Act.put, List.setIfInBounds_toArray, List.set_cons_zero, List.set_cons_succ]
          refine j_val (.pointer (some ⟨g, 0, none⟩)) (by rfl) ?_ ?_
          · intro w' hC; clear hC; go_simp
          simp only [Act.put, List.setIfInBounds_toArray, List.set_cons_zero, List.set_cons_succ]
          refine j_val (.pointer (some ⟨g, 2, none⟩)) (by rfl) ?_ ?_
          · intro w' hC; clear hC; go_simp
          simp only [Act.put, List.setIfInBounds_toArray, List.set_cons_zero, List.set_cons_succ]
          refine j_read (.slice LA1 P lc1) (by rfl) ?_ ?_
          · intro w' hC hcls; have c0 := hcls.cell 0; have c2 := hcls.cell 2; simp only [List.getElem?_toArray, List.getElem?_cons_zero, List.getElem?_cons_succ] at c0 c2; clear hC hcls; go_simp
          simp only [Act.put, List.setIfInBounds_toArray, List.set_cons_zero, List.set_cons_succ]
          refine j_val (.int .i64 ((P : Nat) : Int)) (by rfl) ?_ ?_
          · intro w' hC; clear hC; go_simp
          simp only [Act.put, List.setIfInBounds_toArray, List.set_cons_zero, List.set_cons_succ]
          refine j_val (.pointer (some ⟨g, 0, none⟩)) (by rfl) ?_ ?_
          · intro w' hC; have ct := HC4.out w' hC; clear hC; go_simp
          simp only [Act.put, List.setIfInBounds_toArray, List.set_cons_zero, List.set_cons_succ]
          refine j_val (.pointer (some ⟨g, 0, none⟩)) (by rfl) ?_ ?_
          · intro w' hC; clear hC; go_simp
          simp only [Act.put, List.setIfInBounds_toArray, List.set_cons_zero, List.set_cons_succ]
          refine j_val (.pointer (some ⟨g, 0, none⟩)) (by rfl) ?_ ?_
          · intro w' hC; clear hC; go_simp
          simp only [Act.put, List.setIfInBounds_toArray, List.set_cons_zero, List.set_cons_succ]
          refine j_read (.int .i64 (P : Nat)) (by rfl) ?_ ?_
          · intro w' hC hcls; have c0 := hcls.cell 0; have c2 := hcls.cell 2; simp only [List.getElem?_toArray, List.getElem?_cons_zero, List.getElem?_cons_succ] at c0 c2; clear hC hcls; go_simp
          simp only [Act.put, List.setIfInBounds_toArray, List.set_cons_zero, List.set_cons_succ]
          refine j_val (.bool true) (by rfl) ?_ ?_
          · intro w' hC; clear hC; go_simp
          simp only [Act.put, List.setIfInBounds_toArray, List.set_cons_zero, List.set_cons_succ]
          refine j_val (.bool true) (by rfl) ?_ ?_
          · intro w' hC; clear hC; go_simp
          simp only [Act.put, List.setIfInBounds_toArray, List.set_cons_zero, List.set_cons_succ]
          refine j_val (.func (.yield l) #[] #[]) (by rfl) ?_ ?_
          · intro w' hC; clear hC; go_simp
          simp only [Act.put, List.setIfInBounds_toArray, List.set_cons_zero, List.set_cons_succ]
          refine j_val (.pointer (some ⟨g, 0, none⟩)) (by rfl) ?_ ?_
          · intro w' hC; have ct := HC4.out w' hC; clear hC; go_simp
          simp only [Act.put, List.setIfInBounds_toArray, List.set_cons_zero, List.set_cons_succ]
          refine j_write 33 #[.pointer (some ⟨g, 0, none⟩)] (.slice LA1 P lc1) (by rfl) (by intro w' hC; clear hC; go_simp) ?_ ?_
          · intro w' hC hcls; exact (rest_raw w' hcls).mono fun e w'' ⟨he, hw, hs⟩ => ⟨he, hs, hw⟩
          simp only [Act.put, List.setIfInBounds_toArray, List.set_cons_zero, List.set_cons_succ]
          refine wpJ_end ?_
          intro w5 hC hks hcls
          have HCw5 := Lib.hid hC
          have HLw5 := Lib.hid hcls
          clear hC hks hcls
          have hP0 : 0 < P := by omega
          have hg5 := HLw5.out
          have hs5 := HCw5.out
          obtain ⟨htold, hsp5⟩ := HAY.out.piece hs5
          obtain ⟨fn, tmps, assign, body, hy, hR⟩ := hY pre ((LA1, P, lc1), (T.drop (pre.length * P)).take P) A0 w5 HJ.out hsp5 htold
          dsimp only [hdVals, slV] at hy
          have HR := Lib.hid hR
          have H5 := Lib.hid (And.intro hg5 hs5)
          clear hR htold hsp5 hg5 hs5
          gi_wp2_with (fail)
          refine ⟨(fun h => by cases h), RoundIn.mono (round_wideC HR.out) ?_⟩
          rintro e W6 (⟨rfl, hJ6, hsz6, hk6⟩ | ⟨rfl, hJx6⟩)
          · have hn6 := HAY.out.next (fun k hk => HF.out k hk A0 HZ.out) hP rfl H5.out.1 H5.out.2 hsz6 hk6 ⟨(HGB.out A0 HZ.out).1, (HGB.out A0 HZ.out).2.1⟩
            have HN6 := Lib.hid (And.intro hJ6 (And.intro hn6 (show w.heap.size ≤ W6.heap.size from Nat.le_trans HZ.out (Nat.le_trans HAY.out.spares.size (Nat.le_trans H5.out.2.size hsz6)))))
            clear hJ6 hsz6 hk6 hn6 HR
            gi_wp2_with (fail)
            go_roundw
            case rel => exact ⟨_, _, _, _, _, _, _, _, _, hP0, Lib.hid HN6.out.1, Lib.hid HN6.out.2.2, Lib.hid HN6.out.2.1⟩
            case measure =>
              have e := HN6.out.2.1.src.cell
              have e2 := HLO.out
              show leftOf _ _ < leftOf _ _
              rw [e2]
              unfold leftOf
              rw [e]
              exact hlt
          · gi_wp2_with (fail)
            refine bodyPost_ret (results_none rfl _ _ _) rfl ?_
            exact ⟨⟨_, rfl⟩, .inr ⟨_, trivial, hJx6⟩⟩
        · have hnb1 : 0 = 0 := hq4.resolve_left hfull
          have HC4 : Hid (∀ w', Grows Y w' → w'.cell? ⟨Bt, 0, none⟩ = some (.pointer (some ⟨g, 0, none⟩)) ∧ w'.cell? ⟨g, 0, none⟩ = some (.int .i64 (P : Nat)) ∧ w'.cell? ⟨g, 2, none⟩ = some (.slice LA1 (m + nb) lc1)) := Lib.hid fun w' hw => by
            have h := hAY.grow hw
            have c0 := h.cut.cell 0
            have c2 := h.cut.cell 2
            simp only [List.getElem?_toArray, List.getElem?_cons_zero, List.getElem?_cons_succ] at c0 c2
            exact ⟨h.ptr.cell, c0, c2⟩
          have HAY := Lib.hid hAY
          clear hAY
          have hne : (((m + nb : Nat) : Int) == (P : Int)) = false := by simp; omega
          refine wpIn_wide.2 ?_
          refine q_region mixed (by kernel_rfl) ?_
          refine q_op (.pointer (some ⟨g, 0, none⟩)) (by rfl) ?_ ?_
          · intro w' hC; obtain ⟨ct, cp, cl⟩ := HC4.out w' hC; clear hC; go_simp
          simp only [Act.put, List.setIfInBounds_toArray, List.set_cons_zero, List.set_cons_succ]
          refine q_op (.pointer (some ⟨g, 0, none⟩)) (by rfl) ?_ ?_
          · intro w' hC; clear hC; go_simp
          simp only [Act.put, List.setIfInBounds_toArray, List.set_cons_zero, List.set_cons_succ]
          refine q_op (.pointer (some ⟨g, 2, none⟩)) (by rfl) ?_ ?_
          · intro w' hC; clear hC; go_simp
          simp only [Act.put, List.setIfInBounds_toArray, List.set_cons_zero, List.set_cons_succ]
          refine q_op (.slice LA1 (m + nb) lc1) (by rfl) ?_ ?_
          · intro w' hC; obtain ⟨ct, cp, cl⟩ := HC4.out w' hC; clear hC; go_simp
          simp only [Act.put, List.setIfInBounds_toArray, List.set_cons_zero, List.set_cons_succ]
          refine q_op (.int .i64 (((m + nb) : Nat) : Int)) (by rfl) ?_ ?_
          · intro w' hC; clear hC; go_simp
          simp only [Act.put, List.setIfInBounds_toArray, List.set_cons_zero, List.set_cons_succ]
          refine q_op (.pointer (some ⟨g, 0, none⟩)) (by rfl) ?_ ?_
          · intro w' hC; obtain ⟨ct, cp, cl⟩ := HC4.out w' hC; clear hC; go_simp
          simp only [Act.put, List.setIfInBounds_toArray, List.set_cons_zero, List.set_cons_succ]
          refine q_op (.pointer (some ⟨g, 0, none⟩)) (by rfl) ?_ ?_
          · intro w' hC; clear hC; go_simp
          simp only [Act.put, List.setIfInBounds_toArray, List.set_cons_zero, List.set_cons_succ]
          refine q_op (.pointer (some ⟨g, 0, none⟩)) (by rfl) ?_ ?_
          · intro w' hC; clear hC; go_simp
          simp only [Act.put, List.setIfInBounds_toArray, List.set_cons_zero, List.set_cons_succ]
          refine q_op (.int .i64 (P : Nat)) (by rfl) ?_ ?_
          · intro w' hC; obtain ⟨ct, cp, cl⟩ := HC4.out w' hC; clear hC; go_simp
          simp only [Act.put, List.setIfInBounds_toArray, List.set_cons_zero, List.set_cons_succ]
          refine q_op (.bool false) (by rfl) ?_ ?_
          · intro w' hC; clear hC; (go_simp; omega)
          simp only [Act.put, List.setIfInBounds_toArray, List.set_cons_zero, List.set_cons_succ]
          refine q_op (.bool false) (by rfl) ?_ ?_
          · intro w' hC; clear hC; go_simp
          simp only [Act.put, List.setIfInBounds_toArray, List.set_cons_zero, List.set_cons_succ]
          refine q_skip (by rfl) ?_
          simp only [Act.put, List.setIfInBounds_toArray, List.set_cons_zero, List.set_cons_succ]
          refine q_skip (by rfl) ?_
          simp only [Act.put, List.setIfInBounds_toArray, List.set_cons_zero, List.set_cons_succ]
          refine q_skip (by rfl) ?_
          simp only [Act.put, List.setIfInBounds_toArray, List.set_cons_zero, List.set_cons_succ]
          refine q_skip (by rfl) ?_
          simp only [Act.put, List.setIfInBounds_toArray, List.set_cons_zero, List.set_cons_succ]
          refine q_skip (by rfl) ?_
          simp only [Act.put, List.setIfInBounds_toArray, List.set_cons_zero, List.set_cons_succ]
          refine q_op (.bool false) (by rfl) ?_ ?_
          · intro w' hC; clear hC; go_simp
          simp only [Act.put, List.setIfInBounds_toArray, List.set_cons_zero, List.set_cons_succ]
          refine wpQuiet_nil ?_
          intro w4 hC
          have HA4 := Lib.hid (HAY.out.grow hC)
          clear hC HC4
          gi_wp2_with (fail)
          go_roundw
          case rel => exact ⟨pre, A0, _, _, _, _, _, _, _, by omega, HJ, HZ, HA4⟩
          case measure =>
            have e := HA4.out.src.cell
            have e2 := HLO.out
            show leftOf _ _ < leftOf _ _
            rw [e2]
            unfold leftOf
            rw [e]
            exact hlt
      · have hck' : ¬ (bc : Int) = (k : Int) := by omega
        have hY' := HPUT.out.2 hck
        rw [HXE.out] at hY'
        have HY' := Lib.hid hY'
        clear hY' HPUT
        go_wp2_with (first | rw [HXE.out] | fail)
        gi_wp2_with (fail)
        have hAY := HY'.out
        clear HY'
        have hlt : nb - k < nb := by omega
        have hq4 : m + k = P ∨ nb - k = 0 := by have := HK.out.2; omega
        generalize X.setCell ⟨Bb, 0, none⟩ _ = Y at *
        by_cases hfull : m + k = P
        · rw [hfull] at hAY ⊢
          have HC4 : Hid (∀ w', Spares (fun k => k = g) Y w' → w'.cell? ⟨Bt, 0, none⟩ = some (.pointer (some ⟨g, 0, none⟩))) := Lib.hid fun w' hw => Boxed.cell ((hw.same _ hAY.ptr.lt fun e => (HGB.out A0 HZ.out).2.1 e.symm).trans hAY.ptr)
          have HAY := Lib.hid hAY
          clear hAY
          refine wpIn_region_jobs (G := Grows) (E := Spares (fun k => k = g)) 14 [valJob (fun k => k = g) (.pointer (some ⟨g, 0, none⟩)), valJob (fun k => k = g) (.pointer (some ⟨g, 0, none⟩)), valJob (fun k => k = g) (.pointer (some ⟨g, 2, none⟩)), rdJob (fun k => k = g) (.slice LA1 P lc1), valJob (fun k => k = g) (.int .i64 ((P : Nat) : Int)), valJob (fun k => k = g) (.pointer (some ⟨g, 0, none⟩)), valJob (fun k => k = g) (.pointer (some ⟨g, 0, none⟩)), valJob (fun k => k = g) (.pointer (some ⟨g, 0, none⟩)), rdJob (fun k => k = g) (.int .i64 (P : Nat)), valJob (fun k => k = g) (.bool true), valJob (fun k => k = g) (.bool true), valJob (fun k => k = g) (.func (.yield l) #[] #[]), valJob (fun k => k = g) (.pointer (some ⟨g, 0, none⟩)), wrJob (fun k => k = g) (.slice LA1 P lc1) (fun w => Whole w g 89 #[.int .i64 (P : Nat), .int .i64 (Z : Nat), .slice none 0 0]) (fun _ _ h g => (g.block _ h.lt).trans h)] [(false, false), (false, false), (false, false), (true, false), (false, false), (false, false), (false, false), (false, false), (true, false), (false, false), (false, false), (false, false), (false, false), (true, true)] (fun w => Whole w g 89 #[.int .i64 (P : Nat), .int .i64 (Z : Nat), .slice LA1 P lc1]) rfl mixed (by kernel_rfl) (fun _ _ => Spares.grows) (fun _ _ _ => Spares.trans) (spares_drew _ _) (HAY.out.cut) (fun _ _ h g => (g.block _ h.lt).trans h) ?_
          simp only [List.take_succ_cons, List.take_zero, List.drop_succ_cons, List.drop_zero]
          refine j_val (.pointer (some ⟨g, 0, none⟩)) (by rfl) ?_ ?_
          · intro w' hC; have ct := HC4.out w' hC; clear hC; go_simp
          simp only [Act.put, List.setIfInBounds_toArray, List.set_cons_zero, List.set_cons_succ]
          refine j_val (.pointer (some ⟨g, 0, none⟩)) (by rfl) ?_ ?_
          · intro w' hC; clear hC; go_simp
          simp only [Act.put, List.setIfInBounds_toArray, List.set_cons_zero, List.set_cons_succ]
          refine j_val (.pointer (some ⟨g, 2, none⟩)) (by rfl) ?_ ?_
          · intro w' hC; clear hC; go_simp
          simp only [Act.put, List.setIfInBounds_toArray, List.set_cons_zero, List.set_cons_succ]
          refine j_read (.slice LA1 P lc1) (by rfl) ?_ ?_
          · intro w' hC hcls; have c0 := hcls.cell 0; have c2 := hcls.cell 2; simp only [List.getElem?_toArray, List.getElem?_cons_zero, List.getElem?_cons_succ] at c0 c2; clear hC hcls; go_simp
          simp only [Act.put, List.setIfInBounds_toArray, List.set_cons_zero, List.set_cons_succ]
          refine j_val (.int .i64 ((P : Nat) : Int)) (by rfl) ?_ ?_
          · intro w' hC; clear hC; go_simp
          simp only [Act.put, List.setIfInBounds_toArray, List.set_cons_zero, List.set_cons_succ]
          refine j_val (.pointer (some ⟨g, 0, none⟩)) (by rfl) ?_ ?_
          · intro w' hC; have ct := HC4.out w' hC; clear hC; go_simp
          simp only [Act.put, List.setIfInBounds_toArray, List.set_cons_zero, List.set_cons_succ]
          refine j_val (.pointer (some ⟨g, 0, none⟩)) (by rfl) ?_ ?_
          · intro w' hC; clear hC; go_simp
          simp only [Act.put, List.setIfInBounds_toArray, List.set_cons_zero, List.set_cons_succ]
          refine j_val (.pointer (some ⟨g, 0, none⟩)) (by rfl) ?_ ?_
          · intro w' hC; clear hC; go_simp
          simp only [Act.put, List.setIfInBounds_toArray, List.set_cons_zero, List.set_cons_succ]
          refine j_read (.int .i64 (P : Nat)) (by rfl) ?_ ?_
          · intro w' hC hcls; have c0 := hcls.cell 0; have c2 := hcls.cell 2; simp only [List.getElem?_toArray, List.getElem?_cons_zero, List.getElem?_cons_succ] at c0 c2; clear hC hcls; go_simp
          simp only [Act.put, List.setIfInBounds_toArray, List.set_cons_zero, List.set_cons_succ]
          refine j_val (.bool true) (by rfl) ?_ ?_
          · intro w' hC; clear hC; go_simp
          simp only [Act.put, List.setIfInBounds_toArray, List.set_cons_zero, List.set_cons_succ]
          refine j_val (.bool true) (by rfl) ?_ ?_
          · intro w' hC; clear hC; go_simp
          simp only [Act.put, List.setIfInBounds_toArray, List.set_cons_zero, List.set_cons_succ]
          refine j_val (.func (.yield l) #[] #[]) (by rfl) ?_ ?_
          · intro w' hC; clear hC; go_simp
          simp only [Act.put, List.setIfInBounds_toArray, List.set_cons_zero, List.set_cons_succ]
          refine j_val (.pointer (some ⟨g, 0, none⟩)) (by rfl) ?_ ?_
          · intro w' hC; have ct := HC4.out w' hC; clear hC; go_simp
          simp only [Act.put, List.setIfInBounds_toArray, List.set_cons_zero, List.set_cons_succ]
          refine j_write 33 #[.pointer (some ⟨g, 0, none⟩)] (.slice LA1 P lc1) (by rfl) (by intro w' hC; clear hC; go_simp) ?_ ?_
          · intro w' hC hcls; exact (rest_raw w' hcls).mono fun e w'' ⟨he, hw, hs⟩ => ⟨he, hs, hw⟩
          simp only [Act.put, List.setIfInBounds_toArray, List.set_cons_zero, List.set_cons_succ]
          refine wpJ_end ?_
          intro w5 hC hks hcls
          have HCw5 := Lib.hid hC
          have HLw5 := Lib.hid hcls
          clear hC hks hcls
          have hP0 : 0 < P := by omega
          have hg5 := HLw5.out
          have hs5 := HCw5.out
          obtain ⟨htold, hsp5⟩ := HAY.out.piece hs5
          obtain ⟨fn, tmps, assign, body, hy, hR⟩ := hY pre ((LA1, P, lc1), (T.drop (pre.length * P)).take P) A0 w5 HJ.out hsp5 htold
          dsimp only [hdVals, slV] at hy
          have HR := Lib.hid hR
          have H5 := Lib.hid (And.intro hg5 hs5)
          clear hR htold hsp5 hg5 hs5
          gi_wp2_with (fail)
          refine ⟨(fun h => by cases h), RoundIn.mono (round_wideC HR.out) ?_⟩
          rintro e W6 (⟨rfl, hJ6, hsz6, hk6⟩ | ⟨rfl, hJx6⟩)
          · have hn6 := HAY.out.next (fun k hk => HF.out k hk A0 HZ.out) hP rfl H5.out.1 H5.out.2 hsz6 hk6 ⟨(HGB.out A0 HZ.out).1, (HGB.out A0 HZ.out).2.1⟩
            have HN6 := Lib.hid (And.intro hJ6 (And.intro hn6 (show w.heap.size ≤ W6.heap.size from Nat.le_trans HZ.out (Nat.le_trans HAY.out.spares.size (Nat.le_trans H5.out.2.size hsz6)))))
            clear hJ6 hsz6 hk6 hn6 HR
            gi_wp2_with (fail)
            go_roundw
            case rel => exact ⟨_, _, _, _, _, _, _, _, _, hP0, Lib.hid HN6.out.1, Lib.hid HN6.out.2.2, Lib.hid HN6.out.2.1⟩
            case measure =>
              have e := HN6.out.2.1.src.cell
              have e2 := HLO.out
              show leftOf _ _ < leftOf _ _
              rw [e2]
              unfold leftOf
              rw [e]
              exact hlt
          · gi_wp2_with (fail)
            refine bodyPost_ret (results_none rfl _ _ _) rfl ?_
            exact ⟨⟨_, rfl⟩, .inr ⟨_, trivial, hJx6⟩⟩
        · have hnb1 : (nb - k) = 0 := hq4.resolve_left hfull
          have HC4 : Hid (∀ w', Grows Y w' → w'.cell? ⟨Bt, 0, none⟩ = some (.pointer (some ⟨g, 0, none⟩)) ∧ w'.cell? ⟨g, 0, none⟩ = some (.int .i64 (P : Nat)) ∧ w'.cell? ⟨g, 2, none⟩ = some (.slice LA1 (m + k) lc1)) := Lib.hid fun w' hw => by
            have h := hAY.grow hw
            have c0 := h.cut.cell 0
            have c2 := h.cut.cell 2
            simp only [List.getElem?_toArray, List.getElem?_cons_zero, List.getElem?_cons_succ] at c0 c2
            exact ⟨h.ptr.cell, c0, c2⟩
          have HAY := Lib.hid hAY
          clear hAY
          have hne : (((m + k : Nat) : Int) == (P : Int)) = false := by simp; omega
          refine wpIn_wide.2 ?_
          refine q_region mixed (by kernel_rfl) ?_
          refine q_op (.pointer (some ⟨g, 0, none⟩)) (by rfl) ?_ ?_
          · intro w' hC; obtain ⟨ct, cp, cl⟩ := HC4.out w' hC; clear hC; go_simp
          simp only [Act.put, List.setIfInBounds_toArray, List.set_cons_zero, List.set_cons_succ]
          refine q_op (.pointer (some ⟨g, 0, none⟩)) (by rfl) ?_ ?_
          · intro w' hC; clear hC; go_simp
          simp only [Act.put, List.setIfInBounds_toArray, List.set_cons_zero, List.set_cons_succ]
          refine q_op (.pointer (some ⟨g, 2, none⟩)) (by rfl) ?_ ?_
          · intro w' hC; clear hC; go_simp
          simp only [Act.put, List.setIfInBounds_toArray, List.set_cons_zero, List.set_cons_succ]
          refine q_op (.slice LA1 (m + k) lc1) (by rfl) ?_ ?_
          · intro w' hC; obtain ⟨ct, cp, cl⟩ := HC4.out w' hC; clear hC; go_simp
          simp only [Act.put, List.setIfInBounds_toArray, List.set_cons_zero, List.set_cons_succ]
          refine q_op (.int .i64 (((m + k) : Nat) : Int)) (by rfl) ?_ ?_
          · intro w' hC; clear hC; go_simp
          simp only [Act.put, List.setIfInBounds_toArray, List.set_cons_zero, List.set_cons_succ]
          refine q_op (.pointer (some ⟨g, 0, none⟩)) (by rfl) ?_ ?_
          · intro w' hC; obtain ⟨ct, cp, cl⟩ := HC4.out w' hC; clear hC; go_simp
          simp only [Act.put, List.setIfInBounds_toArray, List.set_cons_zero, List.set_cons_succ]
          refine q_op (.pointer (some ⟨g, 0, none⟩)) (by rfl) ?_ ?_
          · intro w' hC; clear hC; go_simp
          simp only [Act.put, List.setIfInBounds_toArray, List.set_cons_zero, List.set_cons_succ]
          refine q_op (.pointer (some ⟨g, 0, none⟩)) (by rfl) ?_ ?_
          · intro w' hC; clear hC; go_simp
          simp only [Act.put, List.setIfInBounds_toArray, List.set_cons_zero, List.set_cons_succ]
          refine q_op (.int .i64 (P : Nat)) (by rfl) ?_ ?_
          · intro w' hC; obtain ⟨ct, cp, cl⟩ := HC4.out w' hC; clear hC; go_simp
          simp only [Act.put, List.setIfInBounds_toArray, List.set_cons_zero, List.set_cons_succ]
          refine q_op (.bool false) (by rfl) ?_ ?_
          · intro w' hC; clear hC; (go_simp; omega)
          simp only [Act.put, List.setIfInBounds_toArray, List.set_cons_zero, List.set_cons_succ]
          refine q_op (.bool false) (by rfl) ?_ ?_
          · intro w' hC; clear hC; go_simp
          simp only [Act.put, List.setIfInBounds_toArray, List.set_cons_zero, List.set_cons_succ]
          refine q_skip (by rfl) ?_
          simp only [Act.put, List.setIfInBounds_toArray, List.set_cons_zero, List.set_cons_succ]
          refine q_skip (by rfl) ?_
          simp only [Act.put, List.setIfInBounds_toArray, List.set_cons_zero, List.set_cons_succ]
          refine q_skip (by rfl) ?_
          simp only [Act.put, List.setIfInBounds_toArray, List.set_cons_zero, List.set_cons_succ]
          refine q_skip (by rfl) ?_
          simp only [Act.put, List.setIfInBounds_toArray, List.set_cons_zero, List.set_cons_succ]
          refine q_skip (by rfl) ?_
          simp only [Act.put, List.setIfInBounds_toArray, List.set_cons_zero, List.set_cons_succ]
          refine q_op (.bool false) (by rfl) ?_ ?_
          · intro w' hC; clear hC; go_simp
          simp only [Act.put, List.setIfInBounds_toArray, List.set_cons_zero, List.set_cons_succ]
          refine wpQuiet_nil ?_
          intro w4 hC
          have HA4 := Lib.hid (HAY.out.grow hC)
          clear hC HC4
          gi_wp2_with (fail)
          go_roundw
          case rel => exact ⟨pre, A0, _, _, _, _, _, _, _, by omega, HJ, HZ, HA4⟩
          case measure =>
            have e := HA4.out.src.cell
            have e2 := HLO.out
            show leftOf _ _ < leftOf _ _
            rw [e2]
            unfold leftOf
            rw [e]
            exact hlt
end Go.Proofs.Ytlcpbkbojjpfaaa
