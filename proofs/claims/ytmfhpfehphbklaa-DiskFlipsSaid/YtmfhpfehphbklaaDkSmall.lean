/-
  What only reads a disk, or sets one number of it; a name's file.
-/
import Derived.Test.YtmfhpfehphbklaaDkMem
import Derived.KernelRfl
namespace Go.Proofs.Ytmfhpfehphbklaa
open Go.RowKit Go.Maps Go.WideMaps
set_option linter.unusedVariables false
set_option linter.unusedSimpArgs false

theorem lawStr : Keyed Try.prog 9 := string_keyed Try.underlying9
theorem zeroFile (w : World) : (zeroValue 91).run Try.prog w = .ok (.pointer none) w := by kernel_rfl
theorem keyStr {n : Nm} (hn : n.length ≤ maxLen) : keyOf Try.prog 9 (strB n) = some (.string n) := by
  have := keyOf_string_mk (P := Try.prog) (k := 9) Try.underlying9 (s := ⟨n.toArray⟩) (by simpa [ByteArray.size] using hn)
  unfold strB
  simpa using this

/-- A name's file. -/
def fileV (loc : Nat → Nat) (l : Dir) (n : Nm) : Value := match Dir.find n l with
  | some f => ptrV (loc f)
  | none => .pointer none
section
variable {w : World} {made : Nat} {loc : Nat → Nat} {b : Nat} {l : Dir} {n : Nm}
theorem look_in (h : OwnsDir w made loc b l) (hn : n.length ≤ maxLen) (ok : Bool) :
    (Instr.lookup 86 (.map (some b)) (strB n) ok).run Try.prog w = .ok (if ok then .tuple #[fileV loc l n, .bool (Dir.find n l).isSome] else fileV loc l n) w ∧ ∀ f, Dir.find n l = some f → f < made := by
  have key : ∀ v ps, ptrR made loc v = some ((encD l).atKey (.string n) (.lit (.int .i64 (-1))), ps) → v = fileV loc l n ∧ ∀ f, Dir.find n l = some f → f < made := fun v ps h2 => by
    rw [at_enc] at h2
    unfold fileV
    cases hf : Dir.find n l with
    | none =>
      rw [hf] at h2
      dsimp only at h2 ⊢
      rcases ptrR_inv h2 with ⟨rfl, _⟩ | ⟨i, _, _, e⟩
      · exact ⟨rfl, fun f e => by cases e⟩
      · simp only [Prod.mk.injEq, DataW.lit.injEq, Lit.int.injEq] at e
        omega
    | some f =>
      rw [hf] at h2
      dsimp only at h2 ⊢
      rcases ptrR_inv h2 with ⟨rfl, e⟩ | ⟨i, hi, rfl, e⟩
      · simp only [Prod.mk.injEq, DataW.lit.injEq, Lit.int.injEq] at e
        omega
      · simp only [Prod.mk.injEq, DataW.lit.injEq, Lit.int.injEq] at e
        obtain rfl : f = i := by omega
        exact ⟨rfl, fun f' e => by cases e; exact hi⟩
  cases ok with
  | true =>
    obtain ⟨v, ps, h1, h2⟩ := World.ownsMap.look_ok h lawStr Try.underlying86 (zeroFile w) (ptrR_nil made loc) (keyStr hn)
    obtain ⟨rfl, h3⟩ := key v ps h2
    rw [has_enc] at h1
    exact ⟨h1, h3⟩
  | false =>
    obtain ⟨v, ps, h1, h2⟩ := World.ownsMap.lookup h lawStr Try.underlying86 (zeroFile w) (ptrR_nil made loc) (keyStr hn)
    obtain ⟨rfl, h3⟩ := key v ps h2
    exact ⟨h1, h3⟩
end

section
variable {w : World} {d : Nat} {own : Nat → Prop} {G : Geo} {m : Dk} {n : Nm}
theorem DkAt.find_lt (h : DkAt w d own G m) (hn : n.length ≤ maxLen) {f : Nat} (hf : Dir.find n m.names = some f) : f < m.made := (look_in h.rest.names hn true).2 f hf
theorem DkAt.look (h : DkAt w d own G m) (hn : n.length ≤ maxLen) : (Instr.lookup 86 (.map (some G.nb)) (strB n) true).run Try.prog w = .ok (.tuple #[fileV G.loc m.names n, .bool (Dir.find n m.names).isSome]) w := (look_in h.rest.names hn true).1
theorem DkAt.look1 (h : DkAt w d own G m) (hn : n.length ≤ maxLen) : (Instr.lookup 86 (.map (some G.nb)) (strB n) false).run Try.prog w = .ok (fileV G.loc m.names n) w := (look_in h.rest.names hn false).1
/-- The cells of a disk's own block. -/
theorem DkAt.cell (h : DkAt w d own G m) (i : Nat) : w.cell? ⟨d, i, none⟩ = (dCells m G.nb G.kb G.pv)[i]? := h.top.cell i
theorem fileV_some {loc : Nat → Nat} {l : Dir} {f : Nat} (h : Dir.find n l = some f) : fileV loc l n = ptrV (loc f) := by unfold fileV; rw [h]
theorem fileV_none {loc : Nat → Nat} {l : Dir} (h : Dir.find n l = none) : fileV loc l n = .pointer none := by unfold fileV; rw [h]

set_option maxHeartbeats 1000000 in
set_option maxRecDepth 100000 in
theorem find_any (w : World) (h : DkAt w d own G m) (hn : n.length ≤ maxLen) : Calls Try.prog 53 #[.pointer (some ⟨d, 0, none⟩), .string ⟨n.toArray⟩] w fun e w' =>
    e = .returned (.tuple #[if m.down then .pointer none else fileV G.loc m.names n, .int .i64 (if m.down then 82 else if (Dir.find n m.names).isSome then 0 else 3)]) ∧ w = w' := by
  have c3 : w.cell? ⟨d, 3, none⟩ = some (.map (some G.nb)) := h.cell 3
  have c9 : w.cell? ⟨d, 9, none⟩ = some (.bool m.down) := h.cell 9
  have hl := h.look hn
  unfold strB at hl
  have hv0 : Dir.find n m.names = none → fileV G.loc m.names n = .pointer none := fileV_none
  clear h hn
  generalize fileV G.loc m.names n = fv at *
  cases hd : m.down with
  | true =>
    rw [hd] at c9
    clear hl hv0
    go_enter Try.func53, Try.ntmps53
    go_wp2
    go_ret2
    exact ⟨rfl, rfl⟩
  | false =>
    rw [hd] at c9
    cases hf : (Dir.find n m.names).isSome with
    | true =>
      rw [hf] at hl
      clear hf hd hv0
      go_enter Try.func53, Try.ntmps53
      go_wp2
      go_ret2
      exact ⟨rfl, rfl⟩
    | false =>
      have hv : fv = .pointer none := hv0 (by simpa using hf)
      rw [hf] at hl
      clear hf hd hv0
      subst hv
      go_enter Try.func53, Try.ntmps53
      go_wp2
      go_ret2
      exact ⟨rfl, rfl⟩

theorem size_any (w : World) (h : DkAt w d own G m) (hn : n.length ≤ maxLen) : Calls Try.prog 32 #[.pointer (some ⟨d, 0, none⟩), .string ⟨n.toArray⟩] w fun e w' =>
    e = .returned (.tuple #[.int .i64 (m.size n).1, .bool (m.size n).2]) ∧ w = w' := by
  have c3 : w.cell? ⟨d, 3, none⟩ = some (.map (some G.nb)) := h.cell 3
  have hl := h.look hn
  cases hf : Dir.find n m.names with
  | none =>
    rw [hf, fileV_none hf] at hl
    unfold strB at hl
    simp only [Option.isSome] at hl
    have hs : m.size n = (0, false) := by unfold Dk.size; rw [hf]
    rw [hs]
    clear h hn hf hs
    go_enter Try.func32, Try.ntmps32
    go_wp2
    go_ret2
    exact ⟨rfl, rfl⟩
  | some f =>
    rw [hf, fileV_some hf] at hl
    unfold strB ptrV at hl
    simp only [Option.isSome] at hl
    have hs : m.size n = (((m.files f).bytes.length : Int), true) := by unfold Dk.size; rw [hf]
    rw [hs]
    have hlt := h.find_lt hn hf
    obtain ⟨A, c, hA, _⟩ := slice_of_owned (h.rest.rows f hlt)
    have c1 : w.cell? ⟨G.loc f, 1, none⟩ = some (.slice A (m.files f).bytes.length c) := by rw [← hA]; exact (h.rest.cells f hlt).cell 1
    clear h hn hf hs hA
    dsimp only
    generalize (m.files f).bytes.length = k at *
    generalize G.loc f = lf at *
    go_enter Try.func32, Try.ntmps32
    go_wp2
    go_ret2
    exact ⟨rfl, rfl⟩

theorem done_any (w : World) (h : DkAt w d own G m) : Calls Try.prog 35 #[.pointer (some ⟨d, 0, none⟩)] w fun e w' => e = .returned (.int .i64 m.done) ∧ w = w' := by
  have c3 : w.cell? ⟨d, 6, none⟩ = some (.int .i64 m.done) := h.cell 6
  clear h
  go_enter Try.func35, Try.ntmps35
  go_wp2
  go_ret
  exact ⟨rfl, rfl⟩
theorem down_any (w : World) (h : DkAt w d own G m) : Calls Try.prog 47 #[.pointer (some ⟨d, 0, none⟩)] w fun e w' => e = .returned (.bool m.down) ∧ w = w' := by
  have c3 : w.cell? ⟨d, 9, none⟩ = some (.bool m.down) := h.cell 9
  clear h
  go_enter Try.func47, Try.ntmps47
  go_wp2
  go_ret
  exact ⟨rfl, rfl⟩

theorem right_any (n : Nm) (w : World) : Calls Try.prog 48 #[.string ⟨n.toArray⟩] w fun e w' => e = .returned (.bool (right n)) ∧ w = w' := by
  unfold right
  generalize hk : n.length = k
  have hs : (⟨n.toArray⟩ : ByteArray).size = k := by simpa [ByteArray.size] using hk
  clear hk
  generalize (⟨n.toArray⟩ : ByteArray) = s at *
  by_cases h1 : 1 ≤ k
  · have d1 : decide ((k : Int) ≥ 1) = true := by simp; omega
    by_cases h2 : k ≤ 16
    · have d2 : decide ((k : Int) ≤ 16) = true := by simp; omega
      rw [decide_eq_true h1, decide_eq_true h2]
      clear h1 h2
      go_enter Try.func48, Try.ntmps48
      go_wp2
      go_ret
      exact ⟨rfl, rfl⟩
    · have d2 : decide ((k : Int) ≤ 16) = false := by simp; omega
      rw [decide_eq_true h1, decide_eq_false h2]
      clear h1 h2
      go_enter Try.func48, Try.ntmps48
      go_wp2
      go_ret
      exact ⟨rfl, rfl⟩
  · have d1 : decide ((k : Int) ≥ 1) = false := by simp; omega
    rw [decide_eq_false h1]
    clear h1
    go_enter Try.func48, Try.ntmps48
    go_wp2
    go_ret
    exact ⟨rfl, rfl⟩

/-- A cell of a number, one sooner. -/
theorem sooner_any (w : World) {o : Nat} {x : Int} (hc : w.cell? ⟨d, o, none⟩ = some (.int .i64 x)) (hf : w.frozen? ⟨d, o, none⟩ = false) (hx : -9223372036854775807 ≤ x ∧ x ≤ 9223372036854775807) : Calls Try.prog 81 #[.pointer (some ⟨d, o, none⟩)] w fun e w' =>
    e = .returned (.tuple #[]) ∧ w' = if 0 < x then w.setCell ⟨d, o, none⟩ (.int .i64 (x - 1)) else w := by
  by_cases h1 : 0 < x
  · have e : wrap64 (x - 1) = x - 1 := IntWalk.wrap64_in _ (by omega)
    rw [if_pos h1]
    clear hx
    go_enter Try.func81, Try.ntmps81
    go_wp2
    go_end0
    exact ⟨rfl, rfl⟩
  · rw [if_neg h1]
    clear hx
    go_enter Try.func81, Try.ntmps81
    go_wp2
    go_end0
    exact ⟨rfl, rfl⟩
theorem set_any (w : World) {o : Nat} {x : Int} (y : Int) (hc : w.cell? ⟨d, o, none⟩ = some (.int .i64 x)) (hf : w.frozen? ⟨d, o, none⟩ = false) : Calls Try.prog 58 #[.pointer (some ⟨d, o, none⟩), .int .i64 y] w fun e w' =>
    e = .returned (.tuple #[]) ∧ w' = if 0 ≤ y then w.setCell ⟨d, o, none⟩ (.int .i64 y) else w := by
  by_cases h1 : 0 ≤ y
  · rw [if_pos h1]
    go_enter Try.func58, Try.ntmps58
    go_wp2
    go_end0
    exact ⟨rfl, rfl⟩
  · rw [if_neg h1]
    go_enter Try.func58, Try.ntmps58
    go_wp2
    go_end0
    exact ⟨rfl, rfl⟩

/-- A cell of a disk's own block is set: so is the number. -/
theorem DkAt.set (h : DkAt w d own G m) {m' : Dk} (i : Nat) (v : Value) (hd : (dCells m G.nb G.kb G.pv).setIfInBounds i v = dCells m' G.nb G.kb G.pv)
    (h1 : m'.made = m.made) (h2 : m'.names = m.names) (h3 : m'.kept = m.kept) (h4 : m'.pend = m.pend) (h5 : m'.files = m.files) : DkAt (w.setCell ⟨d, i, none⟩ v) d own G m' :=
  h.retop (hd ▸ h.top.put i v) ((Spares.refl (fun k => k = d) w).setCell (p := ⟨d, i, none⟩) rfl v) h1 h2 h3 h4 h5

theorem fail_any (w : World) (y : Int) (h : DkAt w d own G m) : Calls Try.prog 46 #[.pointer (some ⟨d, 0, none⟩), .int .i64 y] w fun e w' =>
    e = .returned (.tuple #[]) ∧ DkAt w' d own G (m.setFail y) ∧ Spares (fun k => k = d) w w' := by
  have c7 : w.cell? ⟨d, 7, none⟩ = some (.int .i64 m.fail) := h.cell 7
  have HC := Lib.hid (set_any w y c7 (h.top.free 7))
  have H := Lib.hid h
  clear h
  go_enter Try.func46, Try.ntmps46
  go_wp2_with (fail)
  refine HC.out.mono ?_
  rintro e w' ⟨rfl, hw⟩
  have HW := Lib.hid hw
  clear hw
  go_wp2_with (fail)
  go_end0
  have hw := HW.out
  by_cases hy : 0 ≤ y
  · rw [if_pos hy] at hw
    subst hw
    exact ⟨rfl, H.out.set 7 _ (by simp [dCells, Dk.setFail, hy]) rfl rfl rfl rfl rfl, (Spares.refl (fun k => k = d) w).setCell (p := ⟨d, 7, none⟩) rfl _⟩
  · rw [if_neg hy] at hw
    subst hw
    refine ⟨rfl, ?_, Spares.refl _ _⟩
    have : m.setFail y = m := by simp [Dk.setFail, hy]
    rw [this]
    exact H.out
theorem cut_any (w : World) (y : Int) (h : DkAt w d own G m) : Calls Try.prog 30 #[.pointer (some ⟨d, 0, none⟩), .int .i64 y] w fun e w' =>
    e = .returned (.tuple #[]) ∧ DkAt w' d own G (m.setCut y) ∧ Spares (fun k => k = d) w w' := by
  have c7 : w.cell? ⟨d, 8, none⟩ = some (.int .i64 m.cut) := h.cell 8
  have HC := Lib.hid (set_any w y c7 (h.top.free 8))
  have H := Lib.hid h
  clear h
  go_enter Try.func30, Try.ntmps30
  go_wp2_with (fail)
  refine HC.out.mono ?_
  rintro e w' ⟨rfl, hw⟩
  have HW := Lib.hid hw
  clear hw
  go_wp2_with (fail)
  go_end0
  have hw := HW.out
  by_cases hy : 0 ≤ y
  · rw [if_pos hy] at hw
    subst hw
    exact ⟨rfl, H.out.set 8 _ (by simp [dCells, Dk.setCut, hy]) rfl rfl rfl rfl rfl, (Spares.refl (fun k => k = d) w).setCell (p := ⟨d, 8, none⟩) rfl _⟩
  · rw [if_neg hy] at hw
    subst hw
    refine ⟨rfl, ?_, Spares.refl _ _⟩
    have : m.setCut y = m := by simp [Dk.setCut, hy]
    rw [this]
    exact H.out
end
end Go.Proofs.Ytmfhpfehphbklaa
