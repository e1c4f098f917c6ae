/-
  List: all names, in order.
-/
import Derived.Test.YtdkpbphgaenlnaaGreatMB
import Derived.Test.YtdkpbphgaenlnaaGreatShelfDk
import Derived.Shelf.SlIter.Nil
import Derived.Shelf.SortM.Plain
import Derived.Shelf.SortM.SortNone
namespace Go.Proofs.YtdkpbphgaenlnaaGreat
open Go.RowKit Go.Maps Go.WideMaps Go.Sort Go.Shelf
set_option linter.unusedVariables false
set_option linter.unusedSimpArgs false

theorem sorts_dk (m : Nat) : AnyZ.SortsIn Tryz.prog sortedDk_ren Fence.wide m :=
  ⟨fun blk off cap ss W hH hblk hsz => callsIn_wide.2 (AnyM.slices_Sort_string sortDk blk off cap ss W hH hblk hsz), fun p cap W => callsIn_wide.2 (AnyM.slices_Sort_string_none sortDk p cap W)⟩
theorem keys_dk (mb : Option Nat) (W : World) : CallsIn Fence.wide 5 Tryz.prog 80 #[.map mb] W fun e w' => e = .returned (.func (.func 120) #[] #[.pointer (some ⟨W.heap.size, 0, none⟩)]) ∧ w' = W.alloc (.cells #[.map mb] 68) :=
  AnyZ.keys_in keysDk Fence.wide 5 trivial rfl mb W
set_option maxHeartbeats 2000000 in
theorem sorted_dk {made : Nat} {loc : Nat → Nat} {b : Nat} {l : Dir} (w : World) (hown : OwnsDir w made loc b l) (hmax : l.length ≤ 1000000000) :
    CallsIn Fence.wide 5 Tryz.prog 79 #[.func (.func 120) #[] #[.pointer (some ⟨w.heap.size, 0, none⟩)]] (w.alloc (.cells #[.map (some b)] 68)) fun e w' =>
      ∃ (v : Value) (ss : List (List UInt8)), e = .returned v ∧ ss.Perm (l.map (·.1)) ∧ w'.ownsRow (w.alloc (.cells #[.map (some b)] 68)).heap.size 9 1 v ss.length ((ss.mergeSort (fun x y => decide (x ≤ y))).map encStr) ∧ (v = .slice none 0 0 ↔ ss = []) ∧ Below (w.alloc (.cells #[.map (some b)] 68)).heap.size (w.alloc (.cells #[.map (some b)] 68)) w' := by
  have hbl := World.ownsMap.lt hown
  have hD : Maps.size (encD (H := Unit) l) = l.length := size_enc l
  have hseq : SeqGives Fence.wide 2 Tryz.prog 120 #[.pointer (some ⟨w.heap.size, 0, none⟩)] encStr (fun ss => ss.Perm (strKeys (encD (H := Unit) l))) (Maps.size (encD (H := Unit) l)) (w.alloc (.cells #[.map (some b)] 68)) :=
    AnyZ.keys_gives (ρ := keysDk_ren) { keysDk with } Fence.wide _ trivial rfl (by omega) w.heap.size b l.length _ _ (by simp) (by simp) (map_same hown (Below.heap_alloc _ _ b hbl))
  rw [keys_enc, hD] at hseq
  exact AnyZ.sorted_in sortedDk Fence.wide 5 trivial trivial trivial trivial rfl (by omega) (sorts_dk _) (enters_of Tryz.func119 (by kernel_rfl) rfl) 120 #[.pointer (some ⟨w.heap.size, 0, none⟩)] trivial (enters_of Tryz.func120 (by kernel_rfl) rfl) _ l.length (by unfold maxLen; omega) (by omega) _ hseq

/-- Names in a map are in order. -/
theorem before_lt : ∀ {a b : List UInt8}, bytesBefore a b = true → a < b
  | [], [], h => by cases h
  | [], _ :: _, _ => List.Lex.nil
  | _ :: _, [], h => by cases h
  | x :: r, y :: s, h => by
    simp only [bytesBefore, Bool.or_eq_true, decide_eq_true_eq, Bool.and_eq_true, beq_iff_eq] at h
    rcases h with h | ⟨rfl, h⟩
    · exact List.Lex.rel h
    · exact List.Lex.cons (before_lt h)
theorem names_sorted {w : World} {made : Nat} {loc : Nat → Nat} {b n : Nat} {l : Dir} (h : OwnsN w made loc b n l) : (l.map (·.1)).Pairwise (fun x y => bytesBefore x y = true) := by
  obtain ⟨es, clock, hb, F, hs, hD⟩ := h
  have h1 := sorted_sorted lawStr.one _ (fit_keys F) (fit_apart lawStr F)
  unfold encD at hD
  injection hD with hD
  rw [← hD, List.pairwise_map] at h1
  rw [List.pairwise_map]
  exact h1
theorem sort_id {l : List (List UInt8)} (h : l.Pairwise (fun x y => bytesBefore x y = true)) : l.mergeSort (fun x y => decide (x ≤ y)) = l := by
  refine List.mergeSort_of_pairwise (h.imp fun hxy => ?_)
  rw [decide_eq_true_eq]
  exact List.le_of_lt (before_lt hxy)

section
variable {d : Nat} {own : Nat → Prop} {G : Geo} {m : Dk}
set_option maxHeartbeats 2000000 in
set_option maxRecDepth 100000 in
theorem list_any (w : World) (h : DkAt w d own G m) (hF : DkFit m) : Calls Tryz.prog 25 #[.pointer (some ⟨d, 0, none⟩)] w fun e w' =>
    ∃ v, e = .returned v ∧ w'.ownsRow w.heap.size 9 1 v m.names.length ((m.names.map (·.1)).map strB) ∧ Grows w w' := by
  have c3 : w.cell? ⟨d, 3, none⟩ = some (.map (some G.nb)) := h.cell 3
  have HK := Lib.hid (callsIn_wide.1 (keys_dk (some G.nb) w))
  have HS := Lib.hid (callsIn_wide.1 (sorted_dk w h.rest.names hF.names))
  have HN := Lib.hid (names_sorted h.rest.names)
  clear h hF
  go_enter Tryz.func25, Tryz.ntmps25
  go_wp2_with (fail)
  refine HK.out.mono ?_
  rintro e w1 ⟨rfl, rfl⟩
  clear HK
  go_wp2_with (fail)
  refine HS.out.mono ?_
  rintro e w2 ⟨v, ss, rfl, hp, hr, _, hb⟩
  have H2 := Lib.hid (And.intro hp (And.intro hr hb))
  clear hp hr hb HS
  go_wp2_with (fail)
  go_ret
  obtain ⟨hp, hr, hb⟩ := H2.out
  have hm : ss.mergeSort (fun x y => decide (x ≤ y)) = m.names.map (·.1) := by
    rw [← sort_id HN.out]
    exact mergeSort_of_perm hp
  have hl : ss.length = m.names.length := by rw [hp.length_eq, List.length_map]
  rw [hm, hl, World.size_alloc] at hr
  refine ⟨v, rfl, owned_from hr (Nat.le_succ _), ?_⟩
  exact (grows_alloc w _).trans hb
end
end Go.Proofs.YtdkpbphgaenlnaaGreat
