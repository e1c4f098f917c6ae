/-
  Pop of book's heap; what its methods are through the interface.
-/
import Derived.Test.YtlldcogkcjnejaaBkPush
namespace Go.Proofs.Ytlldcogkcjnejaa
open Go.RowKit Go.Shelf Go.Maps Go.Sort
set_option linter.unusedVariables false
set_option linter.unusedSimpArgs false

theorem own_less {w : World} {base : Nat} {A : Option Addr} {n c : Nat} {l : List Us} {x : Us} (h : w.ownsRow base 34 3 (.slice A (n + 1) c) (n + 1) ((l ++ [x]).flatMap usE)) : w.ownsRow base 34 3 (.slice A n c) n (l.flatMap usE) := by
  have h1 := h.1
  rw [flat_len3, List.length_append, List.length_singleton] at h1
  rcases h.2 with ⟨e, _⟩ | ⟨g, cap, cur, e, hb, hg, hn, hm, hs, ht⟩
  · injection e with _ e _; omega
  · injection e with e1 e2 e3
    subst e1 e3
    refine ⟨by rw [flat_len3]; omega, .inr ⟨g, c, cur, rfl, hb, hg, by omega, hm, hs, ?_⟩⟩
    rw [flat_snoc] at ht
    have := congrArg (List.take (n * 3)) ht
    rw [List.take_take, List.take_append_of_le_length (by rw [flat_len3]; omega), show min (n * 3) ((n + 1) * 3) = n * 3 by omega, List.take_of_length_le (l := l.flatMap usE) (by rw [flat_len3]; omega)] at this
    exact this
set_option maxRecDepth 100000 in
set_option maxHeartbeats 4000000 in
theorem pop_heap {base h : Nat} {m : List Us} {x : Us} {K : Nat → Prop} {w : World} (hh : HpK w base h (m ++ [x]) K) :
    Calls Try.prog 80 #[.pointer (some ⟨h, 0, none⟩)] w fun e w' => e = .returned (.iface 34 (usV x)) ∧ HpK w' base h m K ∧ Spares K w w' := by
  obtain ⟨A, c, hp, hk1, hk2⟩ := hh
  obtain ⟨hb, ho, hap, hfit, hfew, hbase⟩ := hp
  have hlen : (m ++ [x]).length = m.length + 1 := by rw [List.length_append]; rfl
  rw [hlen] at hb ho hap hk2 hfew
  obtain ⟨n, hn⟩ : ∃ n, m.length = n := ⟨_, rfl⟩
  rw [hn] at hb ho hap hk2 hfew
  have hu : Uss w A (n + 1) c (m ++ [x]) := Rs.owned usL (by rw [hlen, hn]) ho
  obtain ⟨ad, y, rfl, hy, hbl, hcy⟩ := hu.at (i := n) (by omega)
  have ey : y = x := by
    rw [List.getElem?_append_right (by omega), hn, Nat.sub_self] at hy
    simpa using hy.symm
  subst ey
  have hcap := hu.cap
  have z0 := hb.cell
  have z1 : w.frozen? ⟨h, 0, none⟩ = false := Whole.free (show Whole w h 65 #[_] from hb) 0
  obtain ⟨c0, c1, c2⟩ := hcy w (Grows.refl _)
  have HX := Lib.hid (And.intro hb (And.intro ho (And.intro hap (And.intro hfit (And.intro hfew (And.intro hbase (And.intro hk1 (And.intro hk2 hn))))))))
  obtain ⟨y0, y1, y2⟩ := y
  dsimp only at c0 c1 c2
  obtain ⟨W1, hW1⟩ : ∃ W1, w.alloc (.cells #[.int .i64 y0, .int .i64 y1, .int .i64 y2] 34) = W1 := ⟨_, rfl⟩
  have hg1 : Grows w W1 := hW1 ▸ grows_alloc _ _
  have hm1 : Whole W1 w.heap.size 34 #[.int .i64 y0, .int .i64 y1, .int .i64 y2] := by rw [← hW1]; exact Whole.made _ _ _
  have hb1 : Boxed W1 h 65 (.slice (some ad) (n + 1) c) := (hg1.block _ hb.lt).trans hb
  have d0 := hb1.cell
  have d1 : W1.frozen? ⟨h, 0, none⟩ = false := Whole.free (show Whole W1 h 65 #[_] from hb1) 0
  obtain ⟨W2, hW2⟩ : ∃ W2, W1.setCell ⟨h, 0, none⟩ (.slice (some ad) n c) = W2 := ⟨_, rfl⟩
  have hs2 : Spares (fun k => k = h) W1 W2 := by rw [← hW2]; exact Spares.setCell (own := fun k => k = h) (p := ⟨h, 0, none⟩) (Spares.refl _ _) rfl _
  have hb2 : Boxed W2 h 65 (.slice (some ad) n c) := by rw [← hW2]; exact Whole.put (show Whole W1 h 65 #[_] from hb1) 0 _
  have hm2 : Whole W2 w.heap.size 34 #[.int .i64 y0, .int .i64 y1, .int .i64 y2] := (hs2.same _ hm1.lt (by have := hb.lt; omega)).trans hm1
  have e0 := hm2.cell 0
  have e1 := hm2.cell 1
  have e2 := hm2.cell 2
  simp only [List.getElem?_toArray, List.getElem?_cons_zero, List.getElem?_cons_succ] at e0 e1 e2
  have HY := Lib.hid (And.intro hg1 (And.intro hs2 hb2))
  have k0 : (0 : Int) ≤ (n : Int) := by omega
  have k1 : (n : Int) < ((n + 1 : Nat) : Int) := by omega
  have k2 : (n : Int) ≤ (c : Int) := by omega
  have k3 : ((n + 1 : Nat) : Int) - 1 = (n : Int) := by omega
  obtain ⟨k4, k5⟩ := wrapI (x := ((n + 1 : Nat) : Int) - 1) (by omega) (by omega)
  rw [k3] at k4 k5
  clear hb ho hap hfit hfew hbase hk1 hk2 hlen hu hy hbl hcy hg1 hs2 hm1 hm2 hb1 hb2 hn
  go_enter Try.func80, Try.ntmps80
  go_wp2_with (first | rw [hW1] | rw [hW2] | fail)
  go_ret
  obtain ⟨hb, ho, hap, hfit, hfew, hbase, hk1, hk2, hn⟩ := HX.out
  obtain ⟨hg1, hs2, hb2⟩ := HY.out
  have hsp : Spares K w W2 := (Spares.grows hg1).trans (hs2.wider fun k _ e => e ▸ hk1)
  refine ⟨rfl, ⟨some ad, c, ⟨by rw [hn]; exact hb2, ?_, fun e => hap e, fun y hy => hfit y (List.mem_append_left _ hy), by omega, Nat.le_trans hbase hsp.size⟩, hk1, fun k e => hk2 k e⟩, hsp⟩
  rw [hn]
  exact owned_same3 (own_less (owned_grow ho hg1)) fun k e => hs2.same k (Nat.lt_of_lt_of_le (owned_lt3 ho (show (Value.slice (some ad) (n + 1) c).ownBlock = some k from e)).2 hg1.size) fun e2 => hap (e2 ▸ e)

/-! Through the interface. -/
theorem meth_Push (w : World) (h : Nat) : (method 221 64 (.pointer (some ⟨h, 0, none⟩)) "Push").run Try.prog w = .ok (81, .pointer (some ⟨h, 0, none⟩)) w := by kernel_rfl
theorem meth_Pop (w : World) (h : Nat) : (method 221 64 (.pointer (some ⟨h, 0, none⟩)) "Pop").run Try.prog w = .ok (80, .pointer (some ⟨h, 0, none⟩)) w := by kernel_rfl
theorem load_slice {w : World} {h : Nat} {v : Value} (hb : Boxed w h 65 v) : (loadVar 65 ⟨h, 0, none⟩).run Try.prog w = .ok v w := by
  have c0 := hb.cell
  have e : (loadVar 65 ⟨h, 0, none⟩).run Try.prog w = (load ⟨h, 0, none⟩).run Try.prog w := by kernel_rfl
  rw [e]
  clear e
  go_simp
theorem chk_ok (ts : Array TypeId) (ty : TypeId) (a : Addr) (x y : String) (w : World) : (Builtin.ssaWrapNilChk_ ts ty #[.pointer (some a), strVal x, strVal y]).run Try.prog w = .ok (.pointer (some a)) w := rfl
theorem method_by {w : World} {h f : Nat} {v : Value} {name : String} (hm : ((Try.prog.info? 64).bind fun i => i.methods.find? (·.name == name)).map (fun m => (m.path.toList, m.func)) = some ([], some (f, false))) (hb : Boxed w h 65 v) :
    (method 221 64 (.pointer (some ⟨h, 0, none⟩)) name).run Try.prog w = .ok (f, v) w := by
  have hl := load_slice hb
  cases hi : Try.prog.info? 64 with
  | none => rw [hi] at hm; cases hm
  | some i =>
    rw [hi] at hm
    cases hf : i.methods.find? (·.name == name) with
    | none => simp only [Option.bind_some, hf] at hm; cases hm
    | some m =>
      simp only [Option.bind_some, hf, Option.map_some, Option.some.injEq, Prod.mk.injEq] at hm
      have hu := run_underlying (P := Try.prog) (w := w) Try.underlying64
      have hp : m.path = #[] := by simpa using hm.1
      unfold method
      simp [typeInfo, hi, hf, hm.1, hm.2, follow, receiverAt, hu, Place.get, hp, hl, chk_ok, asAddr, Result.andThen]
theorem meth_Len {w : World} {h : Nat} {v : Value} (hb : Boxed w h 65 v) : (method 221 64 (.pointer (some ⟨h, 0, none⟩)) "Len").run Try.prog w = .ok (36, v) w := method_by (by kernel_rfl) hb
theorem meth_Less {w : World} {h : Nat} {v : Value} (hb : Boxed w h 65 v) : (method 221 64 (.pointer (some ⟨h, 0, none⟩)) "Less").run Try.prog w = .ok (79, v) w := method_by (by kernel_rfl) hb
theorem meth_Swap {w : World} {h : Nat} {v : Value} (hb : Boxed w h 65 v) : (method 221 64 (.pointer (some ⟨h, 0, none⟩)) "Swap").run Try.prog w = .ok (82, v) w := method_by (by kernel_rfl) hb
end Go.Proofs.Ytlldcogkcjnejaa
