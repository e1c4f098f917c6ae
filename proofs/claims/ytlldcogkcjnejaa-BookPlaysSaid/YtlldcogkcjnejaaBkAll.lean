/-
  book's All.
-/
import Derived.Test.YtlldcogkcjnejaaBkVals
namespace Go.Proofs.Ytlldcogkcjnejaa
open Go.RowKit Go.Shelf Go.Maps Go.Sort
set_option linter.unusedVariables false
set_option linter.unusedSimpArgs false

theorem sorted_oneU {hs xs l' : List Us} (hr : RiseU hs) (hn : (xs.map (·.seg)).Nodup) (hm : ∀ h, h ∈ xs ↔ h ∈ hs) (hp : l'.Perm xs) (hs' : l'.Pairwise fun x y => decide (y.seg < x.seg) = false) : l' = hs := by
  refine rise_sameU ?_ hr fun h => (hp.mem_iff).trans (hm h)
  have h1 : (l'.map (·.seg)).Nodup := (hp.map _).nodup_iff.2 hn
  have h2 : l'.Pairwise fun x y => x.seg ≠ y.seg := List.pairwise_map.1 h1
  exact (hs'.and h2).imp fun ⟨a, b⟩ => by
    have := of_decide_eq_false a
    omega
set_option maxRecDepth 100000 in
set_option maxHeartbeats 4000000 in
theorem sortedfunc_us (b nn : Nat) (hs : List Us) (w : World) (B1 : Nat) (hbx : Boxed w B1 50 (.map (some b))) (hown : OwnsU w b nn hs) (hrise : RiseU hs) (hk : hs.length ≤ 1000000) :
    Calls Try.prog 31 #[.func (.func 40) #[] #[.pointer (some ⟨B1, 0, none⟩)], .func (.func 33) #[] #[]] w fun e w' =>
      ∃ A c, e = .returned (.slice A hs.length c) ∧ w'.ownsRow w.heap.size 34 3 (.slice A hs.length c) hs.length (hs.flatMap usE) ∧ Grows w w' := by
  have hbl : b < w.heap.size := World.ownsMap.lt hown
  have hB1 := hbx.lt
  have HCO := Lib.hid (collect_us 40 #[.pointer (some ⟨B1, 0, none⟩)] (fun k => k = B1 ∨ k = b) hs.length hk _ w (fun n => values_givesU n B1 b nn hs w hbx hown hrise)
    (fun k hk => by rcases hk with rfl | rfl <;> assumption) (enters_of Try.func40 (by kernel_rfl) rfl))
  have HRI := Lib.hid hrise
  clear hbx hown hrise hbl hB1
  go_enter Try.func31, Try.ntmps31
  go_wp2_with (fail)
  refine HCO.out.mono ?_
  rintro e w1 ⟨A, c, xs, ⟨hnd, hme, hxl⟩, rfl, ho1, hb1⟩
  have HS := Lib.hid (usort_any w.heap.size A xs.length c xs w1 ho1 (by omega))
  have HX := Lib.hid (And.intro hnd (And.intro hme hb1))
  clear hnd hme hxl ho1 hb1
  go_wp2_with (fail)
  refine HS.out.mono ?_
  rintro e w2 ⟨rfl, l', hp, hs', ho2, hb2⟩
  have he := sorted_oneU HRI.out HX.out.1 HX.out.2.1 hp hs'
  subst he
  have hlen : xs.length = l'.length := hp.length_eq.symm
  have HF := Lib.hid (And.intro ho2 (And.intro (Below.trans HX.out.2.2 (hb2 _ (Nat.le_refl _))) hlen))
  clear hp hs' ho2 hb2 hlen
  go_wp2_with (fail)
  go_ret
  refine ⟨A, c, ?_, ?_, HF.out.2.1⟩
  · show Ending.returned (.slice A xs.length c) = _
    rw [HF.out.2.2]
  · have := HF.out.1
    rw [HF.out.2.2] at this
    exact this


set_option maxRecDepth 100000 in
set_option maxHeartbeats 1000000 in
theorem all_use {p b nn : Nat} {l : List Us} {w : World} (h : BkAt w p b nn l) (hnn : nn ≤ 1000000) :
    Calls Try.prog 23 #[.pointer (some ⟨p, 0, none⟩)] w fun e w' => ∃ A c, e = .returned (.slice A l.length c) ∧ w'.ownsRow w.heap.size 34 3 (.slice A l.length c) l.length (l.flatMap usE) ∧ Grows w w' := by
  have hc1 := h.box.cell
  have HVA := Lib.hid (values_us b w)
  have hg4 := grows_alloc w (.cells #[.map (some b)] 50)
  have hb4 := Boxed.new w 50 (.map (some b))
  obtain ⟨W4, hW4⟩ : ∃ z, w.alloc (.cells #[.map (some b)] 50) = z := ⟨_, rfl⟩
  rw [hW4] at hg4 hb4 HVA
  have HS := Lib.hid (sortedfunc_us b nn l W4 w.heap.size hb4 (h.grow hg4).map h.ok.rise (by have := h.ok.few; omega))
  have HG4 := Lib.hid hg4
  clear hg4 hb4 hW4 h hnn
  go_enter Try.func23, Try.ntmps23
  go_wp2_with (fail)
  refine HVA.out.mono ?_
  rintro e w5 ⟨rfl, rfl⟩
  go_wp2_with (fail)
  refine HS.out.mono ?_
  rintro e w6 ⟨A6, c6, rfl, ho6, hg6⟩
  have H6 := Lib.hid (And.intro ho6 hg6)
  clear ho6 hg6
  go_wp2_with (fail)
  go_ret
  exact ⟨A6, c6, rfl, owned_from H6.out.1 HG4.out.size, Grows.trans HG4.out H6.out.2⟩
end Go.Proofs.Ytlldcogkcjnejaa
