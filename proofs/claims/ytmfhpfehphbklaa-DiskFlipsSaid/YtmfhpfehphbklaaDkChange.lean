/-
  What is done to names: the three functions, over any map of names.
-/
import Derived.Test.YtmfhpfehphbklaaDkSmall
namespace Go.Proofs.Ytmfhpfehphbklaa
open Go.RowKit Go.Maps Go.WideMaps
set_option linter.unusedVariables false
set_option linter.unusedSimpArgs false

section
variable {w : World} {own : Nat → Prop} {made : Nat} {loc : Nat → Nat} {b n : Nat} {l : Dir}
abbrev OwnsN (w : World) (made : Nat) (loc : Nat → Nat) (b n : Nat) (l : Dir) : Prop := w.ownsMap Try.prog 9 (ptrR made loc) b n (encD l)

theorem whole_turned {H : Type} {P : Program} {k : TypeId} {R : Value → Option (DataW H × List MemPlace)} {w w' : World} {b n c t : Nat} {D : DataW H} {cs : Array Value} (hc : Whole w c t cs) (h : w.ownsMap P k R b n D) (ht : w.mapTurned w' b) : Whole w' c t cs :=
  hc.same (ht.grown.block c hc.lt fun e => by
    injection e with e
    subst e
    obtain ⟨es, cl, h2⟩ := map_block h
    unfold Whole at hc
    rw [h2] at hc; cases hc)

set_option maxHeartbeats 1000000 in
set_option maxRecDepth 100000 in
theorem taken_map (w : World) {x : Nm} {a : Nat} (h : OwnsN w made loc b n l) (hx : x.length ≤ maxLen) (ha : Whole w a 9 #[strB x]) :
    Calls Try.prog 89 #[.map (some b), ptrV a] w fun e w' => e = .returned (.tuple #[]) ∧ OwnsN w' made loc b (n + 1) (Dir.del x l) ∧ w.mapTurned w' b := by
  have c0 : w.cell? ⟨a, 0, none⟩ = some (.string ⟨x.toArray⟩) := ha.cell 0
  have hk := keyStr hx
  unfold ptrV
  unfold strB at hk
  clear ha hx
  go_enter Try.func89, Try.ntmps89
  go_wp2_with (first
    | (at_delete; refine wpList_delete_own _ rfl _ _ 86 9 rfl _ lawStr Try.underlying86 _ b n _ rfl h _ _ rfl hk ?_; intro w1 hown1 hturn1))
  go_end0
  rw [del_enc] at hown1
  exact ⟨rfl, hown1.mono (Nat.le_succ _), hturn1⟩

set_option maxHeartbeats 1000000 in
set_option maxRecDepth 100000 in
theorem made_map (w : World) {x : Nm} {f a c : Nat} (hinj : ∀ i j, i < made → j < made → loc i = loc j → i = j) (h : OwnsN w made loc b n l) (hn : n < maxLen) (hx : x.length ≤ maxLen) (hf : f < made) (ha : Whole w a 9 #[strB x]) (hc : Whole w c 91 #[ptrV (loc f)]) :
    Calls Try.prog 83 #[.map (some b), ptrV c, ptrV a] w fun e w' => e = .returned (.tuple #[]) ∧ OwnsN w' made loc b (n + 1) (Dir.put x f l) ∧ w.mapTurned w' b := by
  have c0 : w.cell? ⟨a, 0, none⟩ = some (.string ⟨x.toArray⟩) := ha.cell 0
  have c1 : w.cell? ⟨c, 0, none⟩ = some (.pointer (some ⟨loc f, 0, none⟩)) := hc.cell 0
  have hk := keyStr hx
  have hv := ptrR_mk hinj hf
  unfold ptrV
  unfold strB at hk
  clear ha hx hc hinj hf
  generalize loc f = lf at *
  go_enter Try.func83, Try.ntmps83
  go_wp2_with (first
    | (at_mapUpdate; refine wpList_mapUpdate_in _ rfl _ _ _ 86 rfl 9 _ lawStr Try.underlying86 _ b n _ rfl h hn _ _ _ rfl rfl hk _ _ hv ?_; intro w1 hown1 hturn1))
  go_end0
  rw [put_enc] at hown1
  exact ⟨rfl, hown1, hturn1⟩

set_option maxHeartbeats 1000000 in
set_option maxRecDepth 100000 in
theorem moved_map (w : World) {x y : Nm} {a c : Nat} (hinj : ∀ i j, i < made → j < made → loc i = loc j → i = j) (h : OwnsN w made loc b n l) (hn : n < maxLen) (hx : x.length ≤ maxLen) (hy : y.length ≤ maxLen) (ha : Whole w a 9 #[strB x]) (hc : Whole w c 9 #[strB y]) :
    Calls Try.prog 88 #[.map (some b), ptrV a, ptrV c] w fun e w' => e = .returned (.tuple #[]) ∧ OwnsN w' made loc b (n + 1) ((Ch.moved x y).on l) ∧ w.mapTurned w' b := by
  have c0 : w.cell? ⟨a, 0, none⟩ = some (.string ⟨x.toArray⟩) := ha.cell 0
  have hk := keyStr hx
  have hky := keyStr hy
  have hl := look_in (map_tight h |> fun h => by rw [size_enc] at h; exact h) hx true
  have hlk := hl.1
  have hlt := hl.2
  have HA := Lib.hid ha
  have HCc := Lib.hid hc
  unfold ptrV
  unfold strB at hk hky hlk
  clear hl ha hc hx hy
  cases hf : Dir.find x l with
  | none =>
    have e : (Ch.moved x y).on l = l := by simp only [Ch.on, hf]
    rw [hf, fileV_none hf] at hlk
    simp only [Option.isSome, if_true] at hlk
    rw [e]
    have H := Lib.hid h
    clear h hf hlt hinj hk hky e
    go_enter Try.func88, Try.ntmps88
    go_wp2
    go_end0
    exact ⟨rfl, H.out.mono (Nat.le_succ _), H.out.turned_refl⟩
  | some f =>
    have e : (Ch.moved x y).on l = Dir.put y f (Dir.del x l) := by simp only [Ch.on, hf]
    rw [hf, fileV_some hf] at hlk
    unfold ptrV at hlk
    simp only [Option.isSome, if_true] at hlk
    have hv := ptrR_mk hinj (hlt f hf)
    rw [e]
    clear hf hlt hinj e
    generalize loc f = lf at *
    go_enter Try.func88, Try.ntmps88
    go_wp2_with (first
      | (at_delete; refine wpList_delete_own _ rfl _ _ 86 9 rfl _ lawStr Try.underlying86 _ b n _ rfl h _ _ rfl hk ?_; intro w1 hown1 hturn1; have c1 : w1.cell? ⟨c, 0, none⟩ = some (.string ⟨y.toArray⟩) := (whole_turned HCc.out h hturn1).cell 0; have HT := Lib.hid hturn1; clear hturn1)
      | (at_mapUpdate; refine wpList_mapUpdate_in _ rfl _ _ _ 86 rfl 9 _ lawStr Try.underlying86 _ b n _ rfl hown1 hn _ _ _ rfl rfl hky _ _ hv ?_; intro w2 hown2 hturn2))
    go_end0
    rw [del_enc, put_enc] at hown2
    exact ⟨rfl, hown2, HT.out.trans hturn2⟩
end
end Go.Proofs.Ytmfhpfehphbklaa
