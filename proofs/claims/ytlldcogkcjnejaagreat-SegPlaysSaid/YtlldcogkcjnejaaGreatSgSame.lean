import Derived.Test.YtlldcogkcjnejaaGreatMG26
import Derived.Test.YtlldcogkcjnejaaGreatRcSame
import Derived.Test.YtlldcogkcjnejaaGreatMG02
import Derived.LoopTactic
namespace Go.Proofs.YtlldcogkcjnejaaGreat
open Go.Lib (hid)
open Go.RowKit
attribute [local irreducible] wpF
def fnsOf (l : List (Fn × Fh)) : List Fn := l.map (·.1)
theorem Zqi {l1 l2 : List (Fn × Fh)} {j : Nat} {p q : Fn × Fh} (h : fnsOf (l1.take j) = fnsOf (l2.take j)) (h1 : l1[j]? = some p) (h2 : l2[j]? = some q) (he : p.1 = q.1) : fnsOf (l1.take (j + 1)) = fnsOf (l2.take (j + 1)) := by
 unfold fnsOf at *
 rw [List.take_add_one, List.take_add_one, List.map_append, List.map_append, h, h1, h2]
 simp [he]
theorem Zjc {l1 l2 : List (Fn × Fh)} {j : Nat} {p q : Fn × Fh} (h1 : l1[j]? = some p) (h2 : l2[j]? = some q) (he : p.1 ≠ q.1) : fnsOf l1 ≠ fnsOf l2 := fun e => he (by
 have := congrArg (fun l : List Fn => l[j]?) e
 unfold fnsOf at this
 simp only [List.getElem?_map, h1, h2, Option.map_some, Option.some.injEq] at this
 exact this)
set_option maxRecDepth 100000 in
set_option maxHeartbeats 4000000 in
theorem Zol (w : World) (l1 l2 : List (Fn × Fh)) (X1 : Option Addr) (n c1 : Nat) (X2 : Option Addr) (n2 c2 : Nat) (h1 : Fnds w X1 n l1) (h2 : Fnds w X2 n2 l2) (hn : n ≤ 1000000) (hb : ∀ p ∈ l1, p.2.1.2.1 ≤ 1000000) :
 Calls Tryz.prog 24 #[.slice X1 n c1, .slice X2 n2 c2] w fun e w' => e = .returned (.bool (decide (fnsOf l1 = fnsOf l2))) ∧ Grows w w' := by
 have hl1 := h1.row.len
 have hl2 := h2.row.len
 obtain ⟨b, hbb⟩ : ∃ b, decide (fnsOf l1 = fnsOf l2) = b := ⟨_, rfl⟩
 rw [hbb]
 have HBB := hid hbb
 have H1 := hid (And.intro h1 (And.intro hl1 hb))
 have H2 := hid (And.intro h2 hl2)
 clear hbb h1 h2 hb
 by_cases hnn : n = n2
 rotate_left 1
 ·have hq : ((n : Int) != (n2 : Int)) = true := by rw [bne_iff_ne]; omega
  have hbf : b = false := by
   rw [← HBB.out]
   refine decide_eq_false fun e => hnn ?_
   have := congrArg List.length e
   unfold fnsOf at this
   rw [List.length_map, List.length_map, hl1, hl2] at this
   exact this
  have HBF := hid hbf
  clear hnn hbf hl1 hl2
  go_enter Tryz.func24, Tryz.ntmps24
  go_wp2_with (fail)
  go_ret
  rw [HBF.out]
  exact ⟨rfl, Grows.refl _⟩
 subst hnn
 clear hl1 hl2
 go_enter Tryz.func24, Tryz.ntmps24
 go_wp2_with (fail)
 go_loopw [5] (fun i wr => ∃ (j : Nat), j ≤ n ∧ i = .int .i64 (j : Int) ∧ Hid (fnsOf (l1.take j) = fnsOf (l2.take j)) ∧ Hid (Grows w wr)) (fun i _ => n - (intOf i).toNat)
 case atStart => exact ⟨0, by omega, rfl, hid rfl, hid (Grows.refl _)⟩
 case round =>
  obtain ⟨j, hj, rfl, HT, HG⟩ := hrel
  by_cases hlt : j < n
  ·have hlt' : (j : Int) < (n : Int) := by omega
   have hj0 : (0 : Int) ≤ (j : Int) := by omega
   have hwj : IntKind.i64.wrap ((j : Int) + 1) = (j : Int) + 1 := IntWalk.i64_in _ (by omega)
   obtain ⟨p, hp⟩ : ∃ p, l1[j]? = some p := ⟨_, List.getElem?_eq_getElem (by rw [H1.out.2.1]; exact hlt)⟩
   obtain ⟨q, hq⟩ : ∃ q, l2[j]? = some q := ⟨_, List.getElem?_eq_getElem (by rw [H2.out.2]; exact hlt)⟩
   obtain ⟨g1, rfl, hg1, k1⟩ := H1.out.1.row.spot j p hp
   obtain ⟨g2, rfl, hg2, k2⟩ := H2.out.1.row.spot j q hq
   have r1 := H1.out.1.recs p (List.mem_of_getElem? hp)
   have r2 := H2.out.1.recs q (List.mem_of_getElem? hq)
   have hpb := H1.out.2.2 p (List.mem_of_getElem? hp)
   have HPQ := hid (And.intro hp hq)
   obtain ⟨⟨x0, x1, r1'⟩, ⟨L1, a1, b1⟩, ⟨B1, d1, e1⟩⟩ := p
   obtain ⟨⟨y0, y1, r2'⟩, ⟨L2, a2, b2⟩, ⟨B2, d2, e2⟩⟩ := q
   dsimp only at r1 r2 hpb
   have HC1 := hid (show ∀ w', Grows wr w' → w'.cell? { block := g1, off := j * 9 } = some (.int .i64 (x0 : Nat)) ∧ w'.cell? { block := g1, off := j * 9 + 1 } = some (.int .i64 (x1 : Nat)) ∧ w'.cell? { block := g1, off := j * 9 + 2 } = some (.int .i64 r1'.kind) ∧ w'.cell? { block := g1, off := j * 9 + 3 } = some (.string ⟨r1'.key.toArray⟩) ∧ w'.cell? { block := g1, off := j * 9 + 4 } = some (.int .i64 r1'.id) ∧ w'.cell? { block := g1, off := j * 9 + 5 } = some (.int .i64 r1'.no) ∧ w'.cell? { block := g1, off := j * 9 + 6 } = some (.int .i64 r1'.size) ∧ w'.cell? { block := g1, off := j * 9 + 7 } = some (.slice L1 a1 b1) ∧ w'.cell? { block := g1, off := j * 9 + 8 } = some (.slice B1 d1 e1) from fun w' hC => by
    have key : ∀ i, i < 9 → w'.cell? ⟨g1, j * 9 + i, none⟩ = (fnE ((x0, x1, r1'), (L1, a1, b1), (B1, d1, e1)))[i]? := fun i hi => ((Grows.trans HG.out hC).cell (show (⟨g1, j * 9 + i, none⟩ : Addr).block < w.heap.size from hg1)).trans (k1 i hi)
    exact ⟨key 0 (by omega), key 1 (by omega), key 2 (by omega), key 3 (by omega), key 4 (by omega), key 5 (by omega), key 6 (by omega), key 7 (by omega), key 8 (by omega)⟩)
   have HC2 := hid (show ∀ w', Grows wr w' → w'.cell? { block := g2, off := j * 9 } = some (.int .i64 (y0 : Nat)) ∧ w'.cell? { block := g2, off := j * 9 + 1 } = some (.int .i64 (y1 : Nat)) ∧ w'.cell? { block := g2, off := j * 9 + 2 } = some (.int .i64 r2'.kind) ∧ w'.cell? { block := g2, off := j * 9 + 3 } = some (.string ⟨r2'.key.toArray⟩) ∧ w'.cell? { block := g2, off := j * 9 + 4 } = some (.int .i64 r2'.id) ∧ w'.cell? { block := g2, off := j * 9 + 5 } = some (.int .i64 r2'.no) ∧ w'.cell? { block := g2, off := j * 9 + 6 } = some (.int .i64 r2'.size) ∧ w'.cell? { block := g2, off := j * 9 + 7 } = some (.slice L2 a2 b2) ∧ w'.cell? { block := g2, off := j * 9 + 8 } = some (.slice B2 d2 e2) from fun w' hC => by
    have key : ∀ i, i < 9 → w'.cell? ⟨g2, j * 9 + i, none⟩ = (fnE ((y0, y1, r2'), (L2, a2, b2), (B2, d2, e2)))[i]? := fun i hi => ((Grows.trans HG.out hC).cell (show (⟨g2, j * 9 + i, none⟩ : Addr).block < w.heap.size from hg2)).trans (k2 i hi)
    exact ⟨key 0 (by omega), key 1 (by omega), key 2 (by omega), key 3 (by omega), key 4 (by omega), key 5 (by omega), key 6 (by omega), key 7 (by omega), key 8 (by omega)⟩)
   have HSA := hid (fun w' (hC : Grows wr w') => Zgl r1' r2' L1 a1 b1 B1 d1 e1 L2 a2 b2 B2 d2 e2 w' (r1.grow (Grows.trans HG.out hC)) (r2.grow (Grows.trans HG.out hC)) hpb)
   have HLT := hid hlt
   clear hp hq hg1 hg2 k1 k2 r1 r2 hpb
   by_cases hx0 : x0 = y0
   rotate_left 1
   ·have hz : ((x0 : Int) != (y0 : Int)) = true := by rw [bne_iff_ne]; omega
    have HBF := hid (show b = false by rw [← HBB.out]; exact decide_eq_false (Zjc HPQ.out.1 HPQ.out.2 fun e => hx0 (by injection e)))
    clear hx0
    go_wp2_with (fail)
    refine Zf (E := Grows) [Za (.slice (some ⟨g1, 0, none⟩) n c1), Za (.int .i64 (j : Int)), Za (.pointer (some ⟨g1, j * 9, none⟩)), Za (.pointer (some ⟨g1, j * 9, none⟩)), Za (.int .i64 (x0 : Nat)), Za (.slice (some ⟨g2, 0, none⟩) n c2), Za (.int .i64 (j : Int)), Za (.pointer (some ⟨g2, j * 9, none⟩)), Za (.pointer (some ⟨g2, j * 9, none⟩)), Za (.int .i64 (y0 : Nat)), Za (.bool true), Za (.bool true), Za undef, Za undef, Za undef, Za undef, Za undef, Za undef, Za undef, Za undef, Za undef, Za undef, Za undef, Za (.bool true), Za (.bool true), Za undef, Za undef, Za undef, Za undef, Za undef, Za undef, Za undef, Za undef, Za undef, Za undef, Za undef, Za undef, Za (.bool true)] (by kernel_rfl) (by kernel_rfl) (fun _ _ _ => Grows.trans) (Ze _) ?_
    iterate 4
     refine f_val _ (by rfl) ?_ ?_
     ·intro w' hC; clear hC; go_simp
     simp only [Pu]
    refine f_val _ (by rfl) ?_ ?_
    ·intro w' hC; obtain ⟨z0, z1, z2, z3, z4, z5, z6, z7, z8⟩ := HC1.out w' hC; clear hC; go_simp
    simp only [Pu]
    iterate 4
     refine f_val _ (by rfl) ?_ ?_
     ·intro w' hC; clear hC; go_simp
     simp only [Pu]
    refine f_val _ (by rfl) ?_ ?_
    ·intro w' hC; obtain ⟨z0, z1, z2, z3, z4, z5, z6, z7, z8⟩ := HC2.out w' hC; clear hC; go_simp
    simp only [Pu]
    iterate 2
     refine f_val _ (by rfl) ?_ ?_
     ·intro w' hC; clear hC; go_simp
     simp only [Pu]
    iterate 11
     refine Zch (by rfl) ?_
     simp only [Pu]
    iterate 2
     refine f_val _ (by rfl) ?_ ?_
     ·intro w' hC; clear hC; go_simp
     simp only [Pu]
    iterate 12
     refine Zch (by rfl) ?_
     simp only [Pu]
    refine f_val _ (by rfl) ?_ ?_
    ·intro w' hC; clear hC; go_simp
    simp only [Pu]
    refine Zv ?_
    intro w5 hC hks
    have HCw5 := hid hC
    clear hC hks
    go_wp2_with (fail)
    go_ret
    rw [HBF.out]
    exact ⟨rfl, Grows.trans HG.out HCw5.out⟩
   subst hx0
   by_cases hx1 : x1 = y1
   rotate_left 1
   ·have hz : ((x1 : Int) != (y1 : Int)) = true := by rw [bne_iff_ne]; omega
    have HBF := hid (show b = false by rw [← HBB.out]; exact decide_eq_false (Zjc HPQ.out.1 HPQ.out.2 fun e => hx1 (by injection e with _ e; injection e)))
    clear hx1
    go_wp2_with (fail)
    refine Zf (E := Grows) [Za (.slice (some ⟨g1, 0, none⟩) n c1), Za (.int .i64 (j : Int)), Za (.pointer (some ⟨g1, j * 9, none⟩)), Za (.pointer (some ⟨g1, j * 9, none⟩)), Za (.int .i64 (x0 : Nat)), Za (.slice (some ⟨g2, 0, none⟩) n c2), Za (.int .i64 (j : Int)), Za (.pointer (some ⟨g2, j * 9, none⟩)), Za (.pointer (some ⟨g2, j * 9, none⟩)), Za (.int .i64 (x0 : Nat)), Za (.bool false), Za (.bool false), Za (.slice (some ⟨g1, 0, none⟩) n c1), Za (.int .i64 (j : Int)), Za (.pointer (some ⟨g1, j * 9, none⟩)), Za (.pointer (some ⟨g1, j * 9 + 1, none⟩)), Za (.int .i64 (x1 : Nat)), Za (.slice (some ⟨g2, 0, none⟩) n c2), Za (.int .i64 (j : Int)), Za (.pointer (some ⟨g2, j * 9, none⟩)), Za (.pointer (some ⟨g2, j * 9 + 1, none⟩)), Za (.int .i64 (y1 : Nat)), Za (.bool true), Za (.bool true), Za (.bool true), Za undef, Za undef, Za undef, Za undef, Za undef, Za undef, Za undef, Za undef, Za undef, Za undef, Za undef, Za undef, Za (.bool true)] (by kernel_rfl) (by kernel_rfl) (fun _ _ _ => Grows.trans) (Ze _) ?_
    iterate 4
     refine f_val _ (by rfl) ?_ ?_
     ·intro w' hC; clear hC; go_simp
     simp only [Pu]
    refine f_val _ (by rfl) ?_ ?_
    ·intro w' hC; obtain ⟨z0, z1, z2, z3, z4, z5, z6, z7, z8⟩ := HC1.out w' hC; clear hC; go_simp
    simp only [Pu]
    iterate 4
     refine f_val _ (by rfl) ?_ ?_
     ·intro w' hC; clear hC; go_simp
     simp only [Pu]
    refine f_val _ (by rfl) ?_ ?_
    ·intro w' hC; obtain ⟨z0, z1, z2, z3, z4, z5, z6, z7, z8⟩ := HC2.out w' hC; clear hC; go_simp
    simp only [Pu]
    iterate 6
     refine f_val _ (by rfl) ?_ ?_
     ·intro w' hC; clear hC; go_simp
     simp only [Pu]
    refine f_val _ (by rfl) ?_ ?_
    ·intro w' hC; obtain ⟨z0, z1, z2, z3, z4, z5, z6, z7, z8⟩ := HC1.out w' hC; clear hC; go_simp
    simp only [Pu]
    iterate 4
     refine f_val _ (by rfl) ?_ ?_
     ·intro w' hC; clear hC; go_simp
     simp only [Pu]
    refine f_val _ (by rfl) ?_ ?_
    ·intro w' hC; obtain ⟨z0, z1, z2, z3, z4, z5, z6, z7, z8⟩ := HC2.out w' hC; clear hC; go_simp
    simp only [Pu]
    iterate 3
     refine f_val _ (by rfl) ?_ ?_
     ·intro w' hC; clear hC; go_simp
     simp only [Pu]
    iterate 12
     refine Zch (by rfl) ?_
     simp only [Pu]
    refine f_val _ (by rfl) ?_ ?_
    ·intro w' hC; clear hC; go_simp
    simp only [Pu]
    refine Zv ?_
    intro w5 hC hks
    have HCw5 := hid hC
    clear hC hks
    go_wp2_with (fail)
    go_ret
    rw [HBF.out]
    exact ⟨rfl, Grows.trans HG.out HCw5.out⟩
   subst hx1
   by_cases hr : r1' = r2'
   ·rw [decide_eq_true hr] at HSA
    have HT1 := hid (Zqi HT.out HPQ.out.1 HPQ.out.2 (by rw [hr]))
    clear hr
    go_wp2_with (fail)
    refine Zf (E := Grows) [Za (.slice (some ⟨g1, 0, none⟩) n c1), Za (.int .i64 (j : Int)), Za (.pointer (some ⟨g1, j * 9, none⟩)), Za (.pointer (some ⟨g1, j * 9, none⟩)), Za (.int .i64 (x0 : Nat)), Za (.slice (some ⟨g2, 0, none⟩) n c2), Za (.int .i64 (j : Int)), Za (.pointer (some ⟨g2, j * 9, none⟩)), Za (.pointer (some ⟨g2, j * 9, none⟩)), Za (.int .i64 (x0 : Nat)), Za (.bool false), Za (.bool false), Za (.slice (some ⟨g1, 0, none⟩) n c1), Za (.int .i64 (j : Int)), Za (.pointer (some ⟨g1, j * 9, none⟩)), Za (.pointer (some ⟨g1, j * 9 + 1, none⟩)), Za (.int .i64 (x1 : Nat)), Za (.slice (some ⟨g2, 0, none⟩) n c2), Za (.int .i64 (j : Int)), Za (.pointer (some ⟨g2, j * 9, none⟩)), Za (.pointer (some ⟨g2, j * 9 + 1, none⟩)), Za (.int .i64 (x1 : Nat)), Za (.bool false), Za (.bool false), Za (.bool false), Za (.slice (some ⟨g1, 0, none⟩) n c1), Za (.int .i64 (j : Int)), Za (.pointer (some ⟨g1, j * 9, none⟩)), Za (.pointer (some ⟨g1, j * 9 + 2, none⟩)), Za (.agg #[.int .i64 r1'.kind, .string ⟨r1'.key.toArray⟩, .int .i64 r1'.id, .int .i64 r1'.no, .int .i64 r1'.size, .slice L1 a1 b1, .slice B1 d1 e1]), Za (.slice (some ⟨g2, 0, none⟩) n c2), Za (.int .i64 (j : Int)), Za (.pointer (some ⟨g2, j * 9, none⟩)), Za (.pointer (some ⟨g2, j * 9 + 2, none⟩)), Za (.agg #[.int .i64 r2'.kind, .string ⟨r2'.key.toArray⟩, .int .i64 r2'.id, .int .i64 r2'.no, .int .i64 r2'.size, .slice L2 a2 b2, .slice B2 d2 e2]), Za (.bool true), Za (.bool false), Za (.bool false)] (by kernel_rfl) (by kernel_rfl) (fun _ _ _ => Grows.trans) (Ze _) ?_
    iterate 4
     refine f_val _ (by rfl) ?_ ?_
     ·intro w' hC; clear hC; go_simp
     simp only [Pu]
    refine f_val _ (by rfl) ?_ ?_
    ·intro w' hC; obtain ⟨z0, z1, z2, z3, z4, z5, z6, z7, z8⟩ := HC1.out w' hC; clear hC; go_simp
    simp only [Pu]
    iterate 4
     refine f_val _ (by rfl) ?_ ?_
     ·intro w' hC; clear hC; go_simp
     simp only [Pu]
    refine f_val _ (by rfl) ?_ ?_
    ·intro w' hC; obtain ⟨z0, z1, z2, z3, z4, z5, z6, z7, z8⟩ := HC2.out w' hC; clear hC; go_simp
    simp only [Pu]
    iterate 6
     refine f_val _ (by rfl) ?_ ?_
     ·intro w' hC; clear hC; go_simp
     simp only [Pu]
    refine f_val _ (by rfl) ?_ ?_
    ·intro w' hC; obtain ⟨z0, z1, z2, z3, z4, z5, z6, z7, z8⟩ := HC1.out w' hC; clear hC; go_simp
    simp only [Pu]
    iterate 4
     refine f_val _ (by rfl) ?_ ?_
     ·intro w' hC; clear hC; go_simp
     simp only [Pu]
    refine f_val _ (by rfl) ?_ ?_
    ·intro w' hC; obtain ⟨z0, z1, z2, z3, z4, z5, z6, z7, z8⟩ := HC2.out w' hC; clear hC; go_simp
    simp only [Pu]
    iterate 7
     refine f_val _ (by rfl) ?_ ?_
     ·intro w' hC; clear hC; go_simp
     simp only [Pu]
    refine f_val _ (by rfl) ?_ ?_
    ·intro w' hC; obtain ⟨z0, z1, z2, z3, z4, z5, z6, z7, z8⟩ := HC1.out w' hC; clear hC; go_simp
    simp only [Pu]
    iterate 4
     refine f_val _ (by rfl) ?_ ?_
     ·intro w' hC; clear hC; go_simp
     simp only [Pu]
    refine f_val _ (by rfl) ?_ ?_
    ·intro w' hC; obtain ⟨z0, z1, z2, z3, z4, z5, z6, z7, z8⟩ := HC2.out w' hC; clear hC; go_simp
    simp only [Pu]
    refine Jb 19 #[.agg #[.int .i64 r1'.kind, .string ⟨r1'.key.toArray⟩, .int .i64 r1'.id, .int .i64 r1'.no, .int .i64 r1'.size, .slice L1 a1 b1, .slice B1 d1 e1], .agg #[.int .i64 r2'.kind, .string ⟨r2'.key.toArray⟩, .int .i64 r2'.id, .int .i64 r2'.no, .int .i64 r2'.size, .slice L2 a2 b2, .slice B2 d2 e2]] (.bool true) (by rfl) (by intro w' hC; clear hC; go_simp) ?_ ?_
    ·intro w' hC hks; exact (HSA.out w' hC).mono fun e w'' hh => ⟨hh.1, hh.2⟩
    simp only [Pu]
    iterate 2
     refine f_val _ (by rfl) ?_ ?_
     ·intro w' hC; clear hC; go_simp
     simp only [Pu]
    refine Zv ?_
    intro w5 hC hks
    have HCw5 := hid hC
    clear hC hks
    go_wp2_with (fail)
    exact ⟨⟨j + 1, HLT.out, rfl, HT1, hid (Grows.trans HG.out HCw5.out)⟩, by simp only [intOf]; have := HLT.out; omega⟩
   ·rw [decide_eq_false hr] at HSA
    have HBF := hid (show b = false by rw [← HBB.out]; exact decide_eq_false (Zjc HPQ.out.1 HPQ.out.2 fun e => hr (by injection e with _ e; injection e)))
    clear hr
    go_wp2_with (fail)
    refine Zf (E := Grows) [Za (.slice (some ⟨g1, 0, none⟩) n c1), Za (.int .i64 (j : Int)), Za (.pointer (some ⟨g1, j * 9, none⟩)), Za (.pointer (some ⟨g1, j * 9, none⟩)), Za (.int .i64 (x0 : Nat)), Za (.slice (some ⟨g2, 0, none⟩) n c2), Za (.int .i64 (j : Int)), Za (.pointer (some ⟨g2, j * 9, none⟩)), Za (.pointer (some ⟨g2, j * 9, none⟩)), Za (.int .i64 (x0 : Nat)), Za (.bool false), Za (.bool false), Za (.slice (some ⟨g1, 0, none⟩) n c1), Za (.int .i64 (j : Int)), Za (.pointer (some ⟨g1, j * 9, none⟩)), Za (.pointer (some ⟨g1, j * 9 + 1, none⟩)), Za (.int .i64 (x1 : Nat)), Za (.slice (some ⟨g2, 0, none⟩) n c2), Za (.int .i64 (j : Int)), Za (.pointer (some ⟨g2, j * 9, none⟩)), Za (.pointer (some ⟨g2, j * 9 + 1, none⟩)), Za (.int .i64 (x1 : Nat)), Za (.bool false), Za (.bool false), Za (.bool false), Za (.slice (some ⟨g1, 0, none⟩) n c1), Za (.int .i64 (j : Int)), Za (.pointer (some ⟨g1, j * 9, none⟩)), Za (.pointer (some ⟨g1, j * 9 + 2, none⟩)), Za (.agg #[.int .i64 r1'.kind, .string ⟨r1'.key.toArray⟩, .int .i64 r1'.id, .int .i64 r1'.no, .int .i64 r1'.size, .slice L1 a1 b1, .slice B1 d1 e1]), Za (.slice (some ⟨g2, 0, none⟩) n c2), Za (.int .i64 (j : Int)), Za (.pointer (some ⟨g2, j * 9, none⟩)), Za (.pointer (some ⟨g2, j * 9 + 2, none⟩)), Za (.agg #[.int .i64 r2'.kind, .string ⟨r2'.key.toArray⟩, .int .i64 r2'.id, .int .i64 r2'.no, .int .i64 r2'.size, .slice L2 a2 b2, .slice B2 d2 e2]), Za (.bool false), Za (.bool true), Za (.bool true)] (by kernel_rfl) (by kernel_rfl) (fun _ _ _ => Grows.trans) (Ze _) ?_
    iterate 4
     refine f_val _ (by rfl) ?_ ?_
     ·intro w' hC; clear hC; go_simp
     simp only [Pu]
    refine f_val _ (by rfl) ?_ ?_
    ·intro w' hC; obtain ⟨z0, z1, z2, z3, z4, z5, z6, z7, z8⟩ := HC1.out w' hC; clear hC; go_simp
    simp only [Pu]
    iterate 4
     refine f_val _ (by rfl) ?_ ?_
     ·intro w' hC; clear hC; go_simp
     simp only [Pu]
    refine f_val _ (by rfl) ?_ ?_
    ·intro w' hC; obtain ⟨z0, z1, z2, z3, z4, z5, z6, z7, z8⟩ := HC2.out w' hC; clear hC; go_simp
    simp only [Pu]
    iterate 6
     refine f_val _ (by rfl) ?_ ?_
     ·intro w' hC; clear hC; go_simp
     simp only [Pu]
    refine f_val _ (by rfl) ?_ ?_
    ·intro w' hC; obtain ⟨z0, z1, z2, z3, z4, z5, z6, z7, z8⟩ := HC1.out w' hC; clear hC; go_simp
    simp only [Pu]
    iterate 4
     refine f_val _ (by rfl) ?_ ?_
     ·intro w' hC; clear hC; go_simp
     simp only [Pu]
    refine f_val _ (by rfl) ?_ ?_
    ·intro w' hC; obtain ⟨z0, z1, z2, z3, z4, z5, z6, z7, z8⟩ := HC2.out w' hC; clear hC; go_simp
    simp only [Pu]
    iterate 7
     refine f_val _ (by rfl) ?_ ?_
     ·intro w' hC; clear hC; go_simp
     simp only [Pu]
    refine f_val _ (by rfl) ?_ ?_
    ·intro w' hC; obtain ⟨z0, z1, z2, z3, z4, z5, z6, z7, z8⟩ := HC1.out w' hC; clear hC; go_simp
    simp only [Pu]
    iterate 4
     refine f_val _ (by rfl) ?_ ?_
     ·intro w' hC; clear hC; go_simp
     simp only [Pu]
    refine f_val _ (by rfl) ?_ ?_
    ·intro w' hC; obtain ⟨z0, z1, z2, z3, z4, z5, z6, z7, z8⟩ := HC2.out w' hC; clear hC; go_simp
    simp only [Pu]
    refine Jb 19 #[.agg #[.int .i64 r1'.kind, .string ⟨r1'.key.toArray⟩, .int .i64 r1'.id, .int .i64 r1'.no, .int .i64 r1'.size, .slice L1 a1 b1, .slice B1 d1 e1], .agg #[.int .i64 r2'.kind, .string ⟨r2'.key.toArray⟩, .int .i64 r2'.id, .int .i64 r2'.no, .int .i64 r2'.size, .slice L2 a2 b2, .slice B2 d2 e2]] (.bool false) (by rfl) (by intro w' hC; clear hC; go_simp) ?_ ?_
    ·intro w' hC hks; exact (HSA.out w' hC).mono fun e w'' hh => ⟨hh.1, hh.2⟩
    simp only [Pu]
    iterate 2
     refine f_val _ (by rfl) ?_ ?_
     ·intro w' hC; clear hC; go_simp
     simp only [Pu]
    refine Zv ?_
    intro w5 hC hks
    have HCw5 := hid hC
    clear hC hks
    go_wp2_with (fail)
    go_ret
    rw [HBF.out]
    exact ⟨rfl, Grows.trans HG.out HCw5.out⟩
  ·obtain rfl : j = n := by omega
   have HBT := hid (show b = true by
    rw [← HBB.out]
    refine decide_eq_true ?_
    have h := HT.out
    rw [List.take_of_length_le (by rw [H1.out.2.1]; exact Nat.le_refl _), List.take_of_length_le (by rw [H2.out.2]; exact Nat.le_refl _)] at h
    exact h)
   go_wp2_with (fail)
   go_ret
   rw [HBT.out]
   exact ⟨rfl, HG.out⟩
end Go.Proofs.YtlldcogkcjnejaaGreat
