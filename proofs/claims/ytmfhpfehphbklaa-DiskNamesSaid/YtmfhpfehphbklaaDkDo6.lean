/-
  Rename; a new disk.
-/
import Derived.Test.YtmfhpfehphbklaaDkDo5
namespace Go.Proofs.Ytmfhpfehphbklaa
open Go.RowKit Go.Maps Go.WideMaps
set_option linter.unusedVariables false
set_option linter.unusedSimpArgs false
attribute [local irreducible] Go.wpQuiet

section
variable {w : World} {d : Nat} {own : Nat → Prop} {G : Geo} {m : Dk}

set_option maxHeartbeats 8000000 in
set_option maxRecDepth 100000 in
theorem rename_any (w : World) (n to : Nm) (h : DkAt w d own G m) (hF : DkFit m) (hn : n.length ≤ 1000000) (ht : to.length ≤ 1000000) : Calls Try.prog 36 #[.pointer (some ⟨d, 0, none⟩), .string ⟨n.toArray⟩, .string ⟨to.toArray⟩] w fun e w' => Did w d own (m.rename n to) e w' := by
  have hg : Grows w (((w.alloc (.cells #[.pointer (some ⟨d, 0, none⟩)] 40)).alloc (.cells #[.string ⟨n.toArray⟩] 9)).alloc (.cells #[.string ⟨to.toArray⟩] 9)) := ((grows_alloc _ _).trans (grows_alloc _ _)).trans (grows_alloc _ _)
  have ha : Whole (((w.alloc (.cells #[.pointer (some ⟨d, 0, none⟩)] 40)).alloc (.cells #[.string ⟨n.toArray⟩] 9)).alloc (.cells #[.string ⟨to.toArray⟩] 9)) w.heap.size 40 #[ptrV d] := ((Whole.made _ _ _).alloc _).alloc _
  have hb : Whole (((w.alloc (.cells #[.pointer (some ⟨d, 0, none⟩)] 40)).alloc (.cells #[.string ⟨n.toArray⟩] 9)).alloc (.cells #[.string ⟨to.toArray⟩] 9)) (w.heap.size + 1) 9 #[strB n] := by
    have := (Whole.made (w.alloc (.cells #[.pointer (some ⟨d, 0, none⟩)] 40)) 9 #[strB n]).alloc (.cells #[.string ⟨to.toArray⟩] 9)
    rwa [World.size_alloc] at this
  have hc : Whole (((w.alloc (.cells #[.pointer (some ⟨d, 0, none⟩)] 40)).alloc (.cells #[.string ⟨n.toArray⟩] 9)).alloc (.cells #[.string ⟨to.toArray⟩] 9)) (w.heap.size + 1 + 1) 9 #[strB to] := by
    have := Whole.made ((w.alloc (.cells #[.pointer (some ⟨d, 0, none⟩)] 40)).alloc (.cells #[.string ⟨n.toArray⟩] 9)) 9 #[strB to]
    rwa [World.size_alloc, World.size_alloc] at this
  have hnm : n.length ≤ maxLen := by unfold maxLen; omega
  have h0 := h.grow hg
  have HDK := Lib.hid (And.intro h hg)
  unfold Dk.rename
  cases hd : m.down with
  | true =>
    have HFI := Lib.hid (find_down _ h0 hnm hd)
    rw [if_pos rfl]
    clear h hF ha hb hc hn hnm h0 hg hd ht
    go_enter Try.func36, Try.ntmps36
    go_wp2_with (fail)
    refine HFI.out.mono ?_
    rintro e w2 ⟨rfl, rfl⟩
    go_wp2_with (fail)
    go_ret
    exact Did.none HDK.out.1 HDK.out.2 82
  | false =>
  rw [if_neg (by decide)]
  cases hf : Dir.find n m.names with
  | none =>
    have HFI := Lib.hid (find_none _ h0 hnm hd hf)
    dsimp only
    clear h hF ha hb hc hn hnm h0 hg hd hf ht
    go_enter Try.func36, Try.ntmps36
    go_wp2_with (fail)
    refine HFI.out.mono ?_
    rintro e w2 ⟨rfl, rfl⟩
    go_wp2_with (fail)
    go_ret
    exact Did.none HDK.out.1 HDK.out.2 3
  | some f =>
  have HFI := Lib.hid (find_some _ h0 hnm hd hf)
  dsimp only
  have HR := Lib.hid (right_any to)
  cases hr : right to with
  | false =>
    rw [hr] at HR
    rw [if_pos (.inl rfl)]
    clear h hF ha hb hc hn hnm h0 hg hd hf hr ht
    go_enter Try.func36, Try.ntmps36
    go_wp2_with (fail)
    refine HFI.out.mono ?_
    rintro e w2 ⟨rfl, rfl⟩
    go_wp2_with (fail)
    refine (HR.out _).mono ?_
    rintro e w2 ⟨rfl, rfl⟩
    go_wp2_with (fail)
    go_ret
    exact Did.none HDK.out.1 HDK.out.2 1
  | true =>
  rw [hr] at HR
  have HT := Lib.hid (thing_any _ h0 hF.cut hF.fail 63 #[] #[.pointer (some ⟨w.heap.size, 0, none⟩), .pointer (some ⟨w.heap.size + 1 + 1, 0, none⟩), .pointer (some ⟨w.heap.size + 1, 0, none⟩)] (fun args w => by kernel_rfl) (Dk.doRename n to)
    fun _ _ hx w1 h1 s1 => by
      have hl := h.top.lt
      refine rename_do w1 h1 (ha.same (s1.same _ ha.lt (by omega))) (hc.same (s1.same _ hc.lt (by omega))) (hb.same (s1.same _ hb.lt (by omega))) ?_ hn ht hF.pend hF.names
      rintro k (rfl | rfl | rfl)
      · exact ⟨by omega, fun e => by have := h.rest.lt _ e; omega⟩
      · exact ⟨by omega, fun e => by have := h.rest.lt _ e; omega⟩
      · exact ⟨by omega, fun e => by have := h.rest.lt _ e; omega⟩)
  by_cases he : to = n
  · rw [if_pos (.inr he)]
    subst he
    clear h hF ha hb hc hn hnm h0 hg hd hf hr ht HT
    go_enter Try.func36, Try.ntmps36
    go_wp2_with (fail)
    refine HFI.out.mono ?_
    rintro e w2 ⟨rfl, rfl⟩
    go_wp2_with (fail)
    refine (HR.out _).mono ?_
    rintro e w2 ⟨rfl, rfl⟩
    go_wp2_with (fail)
    go_ret
    exact Did.none HDK.out.1 HDK.out.2 1
  · rw [if_neg (by rintro (e | e); · cases e
                   · exact he e)]
    have hs : (to == n) = false := by rw [beq_eq_false_iff_ne]; exact he
    clear h hF ha hb hc hn hnm h0 hg hd hf hr ht he
    go_enter Try.func36, Try.ntmps36
    go_wp2_with (fail)
    refine HFI.out.mono ?_
    rintro e w2 ⟨rfl, rfl⟩
    go_wp2_with (fail)
    refine (HR.out _).mono ?_
    rintro e w2 ⟨rfl, rfl⟩
    go_wp2_with (fail)
    refine HT.out.mono ?_
    rintro e w4 ⟨rfl, h4⟩
    have H4 := Lib.hid h4
    clear h4 HT
    go_wp2_with (fail)
    go_ret
    exact Did.behind HDK.out.2 ⟨rfl, H4.out⟩
end

/-- A new disk, in blocks of its own. -/
def DkNew (w : World) (d : Nat) (w' : World) (m : Dk) : Prop := ∃ own G, DkAt w' d own G m ∧ w.heap.size ≤ d ∧ (∀ k, own k → w.heap.size ≤ k) ∧ Grows w w'
theorem new_of (w : World) (x : Int) : DkNew w (w.heap.size + 1 + 1) (((w.alloc (.map #[] 0)).alloc (.map #[] 0)).alloc (.cells #[.int .i64 (min (max x 0) 67108864), .int .i64 0, .int .i64 0, .map (some w.heap.size), .map (some (w.heap.size + 1)), .slice none 0 0, .int .i64 0, .int .i64 (-1), .int .i64 (-1), .bool false] 90)) (Dk.new x) := by
  have m1 := (World.ownsMap_made w Try.prog 9 (ptrR 0 (fun _ => 0))).alloc (.map #[] 0) |>.alloc (.cells #[.int .i64 (min (max x 0) 67108864), .int .i64 0, .int .i64 0, .map (some w.heap.size), .map (some (w.heap.size + 1)), .slice none 0 0, .int .i64 0, .int .i64 (-1), .int .i64 (-1), .bool false] 90)
  have m2 := (World.ownsMap_made (w.alloc (.map #[] 0)) Try.prog 9 (ptrR 0 (fun _ => 0))).alloc (.cells #[.int .i64 (min (max x 0) 67108864), .int .i64 0, .int .i64 0, .map (some w.heap.size), .map (some (w.heap.size + 1)), .slice none 0 0, .int .i64 0, .int .i64 (-1), .int .i64 (-1), .bool false] 90)
  have m3 := Whole.made ((w.alloc (.map #[] 0)).alloc (.map #[] 0)) 90 #[.int .i64 (min (max x 0) 67108864), .int .i64 0, .int .i64 0, .map (some w.heap.size), .map (some (w.heap.size + 1)), .slice none 0 0, .int .i64 0, .int .i64 (-1), .int .i64 (-1), .bool false]
  rw [World.size_alloc] at m2 m3
  rw [World.size_alloc] at m3
  have g1 : Grows w (((w.alloc (.map #[] 0)).alloc (.map #[] 0)).alloc (.cells #[.int .i64 (min (max x 0) 67108864), .int .i64 0, .int .i64 0, .map (some w.heap.size), .map (some (w.heap.size + 1)), .slice none 0 0, .int .i64 0, .int .i64 (-1), .int .i64 (-1), .bool false] 90)) := ((grows_alloc _ _).trans (grows_alloc _ _)).trans (grows_alloc _ _)
  refine ⟨fun k => k = w.heap.size ∨ k = w.heap.size + 1, ⟨w.heap.size, w.heap.size + 1, .slice none 0 0, [], fun _ => 0, fun _ => .slice none 0 0⟩, ⟨?_, m3, by omega⟩, by omega, by omega, g1⟩
  constructor
  · rintro k (rfl | rfl)
    · exact m1.lt
    · exact m2.lt
  · exact m1
  · exact .inl rfl
  · exact m2
  · exact .inr rfl
  · show w.heap.size ≠ w.heap.size + 1
    omega
  · exact ⟨rfl, .inl ⟨rfl, rfl⟩⟩
  · intro k hk; cases hk
  · intro i v c h1 h2; simp at h1
  · intro i j hi; exact absurd hi (Nat.not_lt_zero _)
  · intro i hi; exact absurd hi (Nat.not_lt_zero _)
  · intro i hi; exact absurd hi (Nat.not_lt_zero _)
  · intro i hi; exact absurd hi (Nat.not_lt_zero _)
  · intro i k hi; exact absurd hi (Nat.not_lt_zero _)
  · intro i j k hi; exact absurd hi (Nat.not_lt_zero _)

set_option maxHeartbeats 4000000 in
set_option maxRecDepth 100000 in
theorem new_any (w : World) (x : Int) : Calls Try.prog 24 #[.int .i64 x] w fun e w' => ∃ d, e = .returned (.pointer (some ⟨d, 0, none⟩)) ∧ DkNew w d w' (Dk.new x) := by
  have HN := Lib.hid (new_of w x)
  have hmm := @run_makeMap Try.prog
  go_enter Try.func24, Try.ntmps24
  go_wp2
  go_ret
  exact ⟨_, rfl, HN.out⟩
end Go.Proofs.Ytmfhpfehphbklaa

