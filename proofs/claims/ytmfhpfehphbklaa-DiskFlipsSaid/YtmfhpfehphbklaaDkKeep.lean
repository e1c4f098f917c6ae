/-
  Names are kept as they were behind so many changes.
-/
import Derived.Test.YtmfhpfehphbklaaDkDo3
namespace Go.Proofs.Ytmfhpfehphbklaa
open Go.RowKit Go.Maps Go.WideMaps
set_option linter.unusedVariables false
set_option linter.unusedSimpArgs false
attribute [local irreducible] Go.wpQuiet

section
variable {w : World} {d : Nat} {own : Nat → Prop} {G : Geo} {m : Dk}

/-- A change's function, called on a map of names. -/
theorem redo_take {cs : List Ch} {l : Dir} {j : Nat} {c : Ch} (h : cs[j]? = some c) : redo (cs.take (j + 1)) l = c.on (redo (cs.take j) l) := by
  unfold redo
  have hj : j < cs.length := (List.getElem?_eq_some_iff.1 h).1
  rw [List.take_add_one, h]
  simp

theorem put_short (n : Nm) (f : Nat) (l : Dir) : (Dir.put n f l).length ≤ l.length + 1 := by
  have h1 : ∀ (x : Nm × Nat) (l : Dir), (Dir.ins x l).length = l.length + 1 := fun x l => by
    induction l with
    | nil => rfl
    | cons y r ih => unfold Dir.ins; split <;> simp [*]
  have h2 : (Dir.del n l).length ≤ l.length := List.length_filter_le _ _
  unfold Dir.put
  rw [h1]
  omega
theorem on_short (c : Ch) (l : Dir) : (c.on l).length ≤ l.length + 1 := by
  cases c with
  | made n f => exact put_short n f l
  | taken n => exact Nat.le_trans (List.length_filter_le _ _) (Nat.le_succ _)
  | moved n to =>
    simp only [Ch.on]
    split
    · exact Nat.le_trans (put_short _ _ _) (Nat.succ_le_succ (List.length_filter_le _ _))
    · exact Nat.le_succ _
theorem redo_short : ∀ (cs : List Ch) (l : Dir) {n : Nat}, l.length + cs.length ≤ n → (redo cs l).length ≤ n
  | [], l, n, h => by simpa [redo] using h
  | c :: cs, l, n, h => by
    have := on_short c l
    show (redo cs (c.on l)).length ≤ n
    refine redo_short cs _ ?_
    simp only [List.length_cons] at h
    omega

/-- Behind a change of what is kept. -/
theorem kept_of {w w' : World} {n : Nat} {l : Dir} (h : DkAt w d own G m) (hn : OwnsN w' m.made G.loc G.kb n l) (ht : w.mapTurned w' G.kb) : DkAt w' d own G { m with kept := l } := by
  have hsz : w.heap.size ≤ w'.heap.size := ht.grown.size
  refine ⟨h.rest.keptN hn (fun k hk hne => ht.grown.block k hk fun e => hne (by injection e)) hsz, ?_, h.free⟩
  exact h.top.same (ht.grown.block d h.top.lt fun e => h.free (by injection e with e; exact e ▸ h.rest.ok))

theorem pend_row (h : DkAt w d own G m) {A : Option Addr} {c : Nat} (hA : G.pv = .slice A m.pend.length c) {j : Nat} (hj : j < m.pend.length) : ∃ ad v x, A = some ad ∧ w.cell? (ad.add j) = some v ∧ m.pend[j]? = some x ∧ ChAt w own m.made G.loc v x ∧ ad.block < w.heap.size := by
  have hr := h.rest.pend
  rw [hA] at hr
  have hrow := Row.owned hr
  obtain ⟨v, hv⟩ : ∃ v, G.pvs[j]? = some v := ⟨G.pvs[j]'(by have := h.rest.nlen; omega), by simp⟩
  obtain ⟨x, hx⟩ : ∃ x, m.pend[j]? = some x := ⟨m.pend[j], by simp⟩
  obtain ⟨ad, he, hb, hc⟩ := Row.spot hrow j v hv
  exact ⟨ad, v, x, he, hc, hx, h.rest.chs j v x hv hx, hb⟩

set_option maxHeartbeats 4000000 in
set_option maxRecDepth 100000 in
theorem keep_names (w : World) (h : DkAt w d own G m) {k : Nat} (hk : k ≤ m.pend.length) (h1 : m.pend.length ≤ 1000000000) (h2 : m.kept.length ≤ 1000000000) :
    Calls Try.prog 57 #[.pointer (some ⟨d, 0, none⟩), .int .i64 (k : Int)] w fun e w' => e = .returned (.tuple #[]) ∧ DkTo w d own w' (m.keep k) := by
  obtain ⟨A, c, hA, hbare⟩ := slice_of_owned h.rest.pend
  have c5 : w.cell? ⟨d, 5, none⟩ = some (.slice A m.pend.length c) := by rw [← hA]; exact h.cell 5
  have hcap : m.pend.length ≤ c := by
    have := h.rest.pend
    rw [hA] at this
    rcases this.2 with ⟨e, e2⟩ | ⟨g, cap, cur, e, _, _, e2, _⟩
    · injection e with _ e _; omega
    · injection e with _ _ e; omega
  have H := Lib.hid (And.intro h hA)
  have hdlt := h.top.lt
  clear h hA
  generalize hN : m.pend.length = N at *
  have HN := Lib.hid hN
  clear hN
  have HB := Lib.hid (And.intro hdlt hbare)
  clear hdlt hbare
  have hk1 : (k : Int) ≤ (c : Int) := by omega
  have hk0 : (0 : Int) ≤ (k : Int) := by omega
  go_enter Try.func57, Try.ntmps57
  go_wp2_with (fail)
  go_loopw [13] (fun vi wr => ∃ (j : Nat), j ≤ k ∧ vi = .int .i64 (j : Int) ∧ Hid (DkAt wr d own G { m with kept := redo (m.pend.take j) m.kept }) ∧ Hid (Spares (fun x => x = G.kb) w wr)) (fun i _ => k - (intOf i).toNat)
  case atStart => exact ⟨0, by omega, rfl, Lib.hid (by exact H.out.1), Lib.hid (Spares.refl _ _)⟩
  case round =>
    obtain ⟨j, hj, rfl, HD, HS⟩ := hrel
    by_cases hlt : j < k
    · have hlt' : (j : Int) < (k : Int) := by omega
      obtain ⟨ad, v, x, rfl, hv, hx, hch, hab⟩ := pend_row HD.out (A := A) (c := c) (by rw [H.out.2, ← HN.out]) (show j < m.pend.length by rw [HN.out]; omega)
      have c4 : wr.cell? ⟨d, 4, none⟩ = some (.map (some G.kb)) := HD.out.cell 4
      have HX := Lib.hid hx
      have hlen : (redo (m.pend.take j) m.kept).length ≤ 2000000000 := redo_short _ _ (by have := HN.out; rw [List.length_take]; omega)
      have hk := HD.out.rest.kept
      have hin := HD.out.rest.inj
      dsimp only at hk hin hch
      have HAB := Lib.hid hab
      clear hx hab
      have HC := Lib.hid hch
      clear hch
      cases x with
      | taken n =>
        obtain ⟨q1, a, rfl, _, hwa⟩ := HC.out
        have HM := Lib.hid (taken_map wr hk q1 hwa)
        clear hwa hk hin HC
        unfold ptrV at *
        go_wp2_with (first | (go_at_call 89; refine HM.out.mono ?_; rintro e w1 ⟨rfl, hn1, ht1⟩; have HN1 := Lib.hid hn1; have HT1 := Lib.hid ht1; clear hn1 ht1))
        go_roundw
        case rel =>
          refine ⟨j + 1, by omega, by go_num, Lib.hid ?_, Lib.hid ?_⟩
          · have := kept_of HD.out HN1.out HT1.out
            rw [redo_take HX.out]
            exact this
          · exact HS.out.grown HT1.out.grown fun g e => by injection e with e; exact e.symm
        case measure => simp [intOf]; omega
      | made n f =>
        obtain ⟨q1, q2, a, b, rfl, _, _, hwb, hwa⟩ := HC.out
        have HM := Lib.hid (made_map wr hin hk (by unfold maxLen; omega) q1 q2 hwa hwb)
        clear hwa hwb hk hin HC
        unfold ptrV at *
        go_wp2_with (first | (go_at_call 83; refine HM.out.mono ?_; rintro e w1 ⟨rfl, hn1, ht1⟩; have HN1 := Lib.hid hn1; have HT1 := Lib.hid ht1; clear hn1 ht1))
        go_roundw
        case rel =>
          refine ⟨j + 1, by omega, by go_num, Lib.hid ?_, Lib.hid ?_⟩
          · have := kept_of HD.out HN1.out HT1.out
            rw [redo_take HX.out]
            exact this
          · exact HS.out.grown HT1.out.grown fun g e => by injection e with e; exact e.symm
        case measure => simp [intOf]; omega
      | moved n to =>
        obtain ⟨q1, q2, a, b, rfl, _, _, hwa, hwb⟩ := HC.out
        have HM := Lib.hid (moved_map wr hin hk (by unfold maxLen; omega) q1 q2 hwa hwb)
        clear hwa hwb hk hin HC
        unfold ptrV at *
        go_wp2_with (first | (go_at_call 88; refine HM.out.mono ?_; rintro e w1 ⟨rfl, hn1, ht1⟩; have HN1 := Lib.hid hn1; have HT1 := Lib.hid ht1; clear hn1 ht1))
        go_roundw
        case rel =>
          refine ⟨j + 1, by omega, by go_num, Lib.hid ?_, Lib.hid ?_⟩
          · have := kept_of HD.out HN1.out HT1.out
            rw [redo_take HX.out]
            exact this
          · exact HS.out.grown HT1.out.grown fun g e => by injection e with e; exact e.symm
        case measure => simp [intOf]; omega
    · obtain rfl : j = k := by omega
      have c5 : wr.cell? ⟨d, 5, none⟩ = some G.pv := HD.out.cell 5
      have f5 := HD.out.top.free 5
      go_wp2_with (fail)
      go_end0
      refine ⟨rfl, own, { G with pv := .slice none 0 0, pvs := [] }, ⟨?_, ?_, HD.out.free⟩, ?_, fun k hk => .inl hk⟩
      · have h1 : DkRest (wr.setCell ⟨d, 5, none⟩ (.slice none 0 0)) own G { m with kept := redo (m.pend.take j) m.kept } :=
          HD.out.rest.stay (fun k hk => Below.heap_setCell _ _ _ _ fun e => HD.out.free (by have e : k = d := e; exact e ▸ hk)) (by simp [World.setCell])
        exact h1.pends (pv := .slice none 0 0) (pvs := []) (cs := []) ⟨rfl, .inl ⟨rfl, rfl⟩⟩ (fun k hk => by cases hk) (Nat.le_refl _) (fun _ _ _ => rfl) (fun i v c h1 h2 => by simp at h1)
      · exact HD.out.top.put 5 _
      · exact (HS.out.wider (own' := fun x => x = d ∨ own x) fun x _ e => .inr (e ▸ H.out.1.rest.ok)).setCell (p := ⟨d, 5, none⟩) (.inl rfl) _
end
end Go.Proofs.Ytmfhpfehphbklaa
