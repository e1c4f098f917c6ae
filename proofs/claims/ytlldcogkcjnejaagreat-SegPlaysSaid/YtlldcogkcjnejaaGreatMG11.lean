import Derived.Test.YtlldcogkcjnejaaGreatMG10
import Derived.Test.YtlldcogkcjnejaaGreatMG02
namespace Go.Proofs.YtlldcogkcjnejaaGreat
open Go.Lib (hid)
open Go.RowKit
attribute [local irreducible] Go.wpQuiet
theorem Zfs {e : Nm × Nat} : ∀ {l r : Dir}, (∀ y ∈ l, bytesBefore y.1 e.1 = true) → rput e (l ++ r) = l ++ rput e r
 | [], _, _ => rfl
 | y :: l, r, h => by
   rw [List.cons_append, rput, if_pos (h y List.mem_cons_self), Zfs fun z hz => h z (List.mem_cons_of_mem _ hz), List.cons_append]
theorem Zgz {e p : Nm × Nat} : ∀ {l : Dir}, (∃ y ∈ l, bytesBefore y.1 e.1 = false) → rput e (l ++ [p]) = rput e l ++ (if p.1 = e.1 then [] else [p])
 | [], h => by obtain ⟨y, hy, _⟩ := h; cases hy
 | y :: l, h => by
   rw [List.cons_append, rput, rput]
   by_cases hy : bytesBefore y.1 e.1 = true
   ·rw [if_pos hy, if_pos hy, Zgz (by
     obtain ⟨z, hz, hb⟩ := h
     rcases List.mem_cons.1 hz with rfl | hz
     ·rw [hy] at hb; cases hb
     ·exact ⟨z, hz, hb⟩), List.cons_append]
   ·rw [if_neg hy, if_neg hy, List.cons_append]
    congr 1
    rw [← List.cons_append]
    unfold Dir.del
    rw [List.filter_append]
    congr 1
    by_cases hp : p.1 = e.1
    ·rw [if_pos hp]; simp [hp]
    ·rw [if_neg hp]; simp [hp]
theorem less_before : ∀ x y : Nm, Op.bytesLess x y = bytesBefore x y
 | [], [] => by simp [Op.bytesLess, bytesBefore]
 | [], _ :: _ => by simp [Op.bytesLess, bytesBefore]
 | _ :: _, [] => by simp [Op.bytesLess, bytesBefore]
 | a :: x, b :: y => by
   have ih := less_before x y
   simp [Op.bytesLess, bytesBefore, ih]
def PutS (e : Nm × Nat) (l : Dir) (dn : Bool) (o : Dir) : Prop := (dn = true ∧ o = rput e l ∧ ∃ y ∈ l, bytesBefore y.1 e.1 = false) ∨ (dn = false ∧ o = l ∧ ∀ y ∈ l, bytesBefore y.1 e.1 = true)
section
variable {e p : Nm × Nat} {l o : Dir} {j : Nat}
theorem PutS.start : PutS e ([] : Dir) false [] := .inr ⟨rfl, rfl, fun y hy => by cases hy⟩
theorem PutS.low (h : PutS e (l.take j) false o) (hp : l[j]? = some p) (hb : bytesBefore p.1 e.1 = true) : PutS e (l.take (j + 1)) false (o ++ [p]) := by
 rcases h with ⟨h1, _⟩ | ⟨_, h2, h3⟩
 ·cases h1
 ·rw [List.take_add_one, hp]
  refine .inr ⟨rfl, by rw [h2]; rfl, fun y hy => ?_⟩
  rcases List.mem_append.1 hy with hy | hy
  ·exact h3 y hy
  ·rw [List.mem_singleton.1 (show y ∈ [p] from hy)]; exact hb
theorem PutS.here (h : PutS e (l.take j) false o) (hp : l[j]? = some p) (hb : bytesBefore p.1 e.1 = false) : PutS e (l.take (j + 1)) true (o ++ [e] ++ (if p.1 = e.1 then [] else [p])) := by
 rcases h with ⟨h1, _⟩ | ⟨_, h2, h3⟩
 ·cases h1
 ·rw [List.take_add_one, hp]
  refine .inl ⟨rfl, ?_, p, List.mem_append_right _ (List.mem_singleton.2 rfl), hb⟩
  show _ = rput e (l.take j ++ [p])
  have hpu : rput e [p] = e :: Dir.del e.1 [p] := by rw [rput, if_neg (by rw [hb]; decide)]
  rw [Zfs h3, h2, hpu, List.append_assoc]
  congr 1
  unfold Dir.del
  by_cases hpe : p.1 = e.1
  ·rw [if_pos hpe]; simp [hpe]
  ·rw [if_neg hpe]; simp [hpe]
theorem PutS.more (h : PutS e (l.take j) true o) (hp : l[j]? = some p) : PutS e (l.take (j + 1)) true (o ++ (if p.1 = e.1 then [] else [p])) := by
 rcases h with ⟨_, h2, y, hy, hb⟩ | ⟨h1, _⟩
 ·rw [List.take_add_one, hp]
  refine .inl ⟨rfl, ?_, y, List.mem_append_left _ hy, hb⟩
  show _ = rput e (l.take j ++ [p])
  rw [Zgz ⟨y, hy, hb⟩, h2]
 ·cases h1
theorem PutS.end_ (h : PutS e l true o) : o = rput e l := by
 rcases h with ⟨_, h, _⟩ | ⟨h, _⟩
 ·exact h
 ·cases h
theorem PutS.last (h : PutS e l false o) : o ++ [e] = rput e l := by
 rcases h with ⟨h, _⟩ | ⟨_, h2, h3⟩
 ·cases h
 ·have := Zfs (r := []) h3
  rw [List.append_nil] at this
  rw [this, h2]
  rfl
end
set_option maxHeartbeats 4000000 in
set_option maxRecDepth 100000 in
theorem Zjd (w : World) {A : Option Addr} {n c : Nat} {l : Dir} (e : Nm × Nat) (h : Rw w A n enC 2 l) (hn : n ≤ 100000) :
 Calls Tryz.prog 110 #[.slice A n c, .agg #[.string ⟨e.1.toArray⟩, .int .i64 (e.2 : Int)]] w fun e' w' => REnTo w (rput e l) e' w' := by
 obtain ⟨i1, hi1, hz1, hy1, hb1⟩ := info_parts infoEn
 have HI1 := hid (And.intro hi1 (And.intro hz1 (And.intro hy1 hb1)))
 have H := hid h
 have HL := hid h.len
 clear h hi1 hz1 hy1 hb1
 have HE0 := hid (Whole.made w 84 #[.string ⟨e.1.toArray⟩, .int .i64 (e.2 : Int)])
 have HG0 := hid (Zb w (.cells #[.string ⟨e.1.toArray⟩, .int .i64 (e.2 : Int)] 84))
 go_enter Tryz.func110, Tryz.ntmps110
 go_wp2_with (fail)
 go_loopw [5, 6, 7] (fun vo vd vi wr => ∃ (j q : Nat) (dn : Bool) (L : Option Addr) (lc : Nat) (o : Dir), j ≤ n ∧ q ≤ j + 1 ∧ vo = .slice L q lc ∧ vd = .bool dn ∧ vi = .int .i64 (j : Nat) ∧ Hid (q = o.length) ∧ Hid (PutS e (l.take j) dn o) ∧ Hid (dn = false → q ≤ j) ∧ Hid (wr.ownsRow (w.heap.size + 1) 84 2 (.slice L q lc) q (o.flatMap enC)) ∧ Hid (Grows (w.alloc (.cells #[.string ⟨e.1.toArray⟩, .int .i64 (e.2 : Int)] 84)) wr)) (fun _ _ i _ => n - (intOf i).toNat)
 case atStart => exact ⟨0, 0, false, none, 0, [], by omega, by omega, rfl, rfl, rfl, hid rfl, hid PutS.start, hid (fun _ => by omega), hid ⟨rfl, .inl ⟨rfl, rfl⟩⟩, hid (Grows.refl _)⟩
 case round =>
  obtain ⟨j, q, dn, L, lc, o, hj, hq, rfl, rfl, rfl, HQ, HP, HDQ, HR, HG⟩ := hrel
  have HGW := hid (Grows.trans HG0.out HG.out)
  have e0 : wr.cell? { block := w.heap.size, off := 0 } = some (.string ⟨e.1.toArray⟩) := (HG.out.whole HE0.out).cell 0
  have e1 : wr.cell? { block := w.heap.size, off := 1 } = some (.int .i64 (e.2 : Int)) := (HG.out.whole HE0.out).cell 1
  by_cases hlt : j < n
  ·obtain ⟨p, hp⟩ : ∃ p, l[j]? = some p := ⟨_, List.getElem?_eq_getElem (by rw [HL.out]; exact hlt)⟩
   obtain ⟨g, hA2, hg, hc⟩ := H.out.spot j p hp
   subst hA2
   have c0 : wr.cell? { block := g, off := j * 2 } = some (.string ⟨p.1.toArray⟩) := by
    rw [HGW.out.cell (show (⟨g, j * 2, none⟩ : Addr).block < w.heap.size from hg)]; exact hc 0 (by omega)
   have hjI : (j : Int) < (n : Int) := by omega
   have hj0 : (0 : Int) ≤ (j : Int) := by omega
   have hwj : IntKind.i64.wrap ((j : Int) + 1) = (j : Int) + 1 := IntWalk.i64_in _ (by omega)
   have HCF := hid (show ∀ w', Grows wr w' → w'.cell? { block := g, off := j * 2 } = some (.string ⟨p.1.toArray⟩) ∧ w'.cell? { block := g, off := j * 2 + 1 } = some (.int .i64 (p.2 : Int)) ∧ w'.cell? { block := w.heap.size, off := 0 } = some (.string ⟨e.1.toArray⟩) ∧ w'.cell? { block := w.heap.size, off := 1 } = some (.int .i64 (e.2 : Int)) from fun w' hg' =>
    ⟨((Grows.trans HGW.out hg').cell (show (⟨g, j * 2, none⟩ : Addr).block < w.heap.size from hg)).trans (hc 0 (by omega)), ((Grows.trans HGW.out hg').cell (show (⟨g, j * 2 + 1, none⟩ : Addr).block < w.heap.size from hg)).trans (hc 1 (by omega)), ((Grows.trans HG.out hg').whole HE0.out).cell 0, ((Grows.trans HG.out hg').whole HE0.out).cell 1⟩)
   have HPP := hid hp
   have HCX := hid (show ∀ w', Grows (w.alloc (.cells #[.string ⟨e.1.toArray⟩, .int .i64 (e.2 : Int)] 84)) w' → w'.cell? { block := g, off := j * 2 } = some (.string ⟨p.1.toArray⟩) ∧ w'.cell? { block := g, off := j * 2 + 1 } = some (.int .i64 (p.2 : Int)) ∧ w'.cell? { block := w.heap.size, off := 0 } = some (.string ⟨e.1.toArray⟩) ∧ w'.cell? { block := w.heap.size, off := 1 } = some (.int .i64 (e.2 : Int)) from fun w' hg' =>
    ⟨((Grows.trans HG0.out hg').cell (show (⟨g, j * 2, none⟩ : Addr).block < w.heap.size from hg)).trans (hc 0 (by omega)), ((Grows.trans HG0.out hg').cell (show (⟨g, j * 2 + 1, none⟩ : Addr).block < w.heap.size from hg)).trans (hc 1 (by omega)), (hg'.whole HE0.out).cell 0, (hg'.whole HE0.out).cell 1⟩)
   have HLT := hid (And.intro hlt (And.intro hq hn))
   have HLS := hid (less_before p.1 e.1)
   clear hp hc c0 e0 e1
   cases dn with
   | true =>
     by_cases hpx : p.1 = e.1
     ·have hb : (p.1 == e.1) = true := by rw [beq_iff_eq]; exact hpx
      have HPN := hid (HP.out.more HPP.out)
      rw [if_pos hpx, List.append_nil] at HPN
      clear hpx
      go_wp2_with (fail)
      refine Zo mixed (by kernel_rfl) ?_
      iterate 3
       (refine q_op' (v := ?_) (a' := ?_) (by rfl) ?_ ?_ ?_
        rotate_left 2
        ·intro w' hC
         obtain ⟨z1, z2, z3, z4⟩ := HCF.out w' (hC)
         clear hC
         go_simp
         try with_reducible rfl
        ·simp only [Pu]
         try rfl)
      iterate 8
       (refine Zbk (a' := ?_) (by rfl) ?_ ?_
        rotate_left 1
        ·simp only [Pu]
         try rfl)
      iterate 1
       (refine q_op' (v := ?_) (a' := ?_) (by rfl) ?_ ?_ ?_
        rotate_left 2
        ·intro w' hC
         obtain ⟨z1, z2, z3, z4⟩ := HCF.out w' (hC)
         clear hC
         go_simp
         try with_reducible rfl
        ·simp only [Pu]
         try rfl)
      refine wpQuiet_nil ?_
      intro w5 hC
      have HCw5 := hid hC
      clear hC
      go_wp2_with (fail)
      refine Zo mixed (by kernel_rfl) ?_
      iterate 8
       (refine q_op' (v := ?_) (a' := ?_) (by rfl) ?_ ?_ ?_
        rotate_left 2
        ·intro w' hC
         obtain ⟨z1, z2, z3, z4⟩ := HCF.out w' (Grows.trans HCw5.out hC)
         clear hC
         go_simp
         try with_reducible rfl
        ·simp only [Pu]
         try rfl)
      refine wpQuiet_nil ?_
      intro w6 hC
      have HCw6 := hid hC
      clear hC
      go_wp2_with (fail)
      exact ⟨⟨j + 1, q, true, L, lc, o, HLT.out.1, by have := HLT.out; omega, rfl, rfl, rfl, HQ, HPN, hid (fun h => by cases h), hid (Zd HR.out (Grows.trans HCw5.out HCw6.out)), hid (Grows.trans HG.out (Grows.trans HCw5.out HCw6.out))⟩, Yb HLT.out.1⟩
     ·have hb : (p.1 == e.1) = false := by rw [beq_eq_false_iff_ne]; exact hpx
      have HPN := hid (HP.out.more HPP.out)
      rw [if_neg hpx] at HPN
      clear hpx
      go_wp2_with (fail)
      refine Zo mixed (by kernel_rfl) ?_
      iterate 3
       (refine q_op' (v := ?_) (a' := ?_) (by rfl) ?_ ?_ ?_
        rotate_left 2
        ·intro w' hC
         obtain ⟨z1, z2, z3, z4⟩ := HCF.out w' (hC)
         clear hC
         go_simp
         try with_reducible rfl
        ·simp only [Pu]
         try rfl)
      iterate 8
       (refine Zbk (a' := ?_) (by rfl) ?_ ?_
        rotate_left 1
        ·simp only [Pu]
         try rfl)
      iterate 1
       (refine q_op' (v := ?_) (a' := ?_) (by rfl) ?_ ?_ ?_
        rotate_left 2
        ·intro w' hC
         obtain ⟨z1, z2, z3, z4⟩ := HCF.out w' (hC)
         clear hC
         go_simp
         try with_reducible rfl
        ·simp only [Pu]
         try rfl)
      refine wpQuiet_nil ?_
      intro w5 hC
      have HCw5 := hid hC
      clear hC
      go_wp2_with (fail)
      refine Zo mixed (by kernel_rfl) ?_
      iterate 8
       (refine q_op' (v := ?_) (a' := ?_) (by rfl) ?_ ?_ ?_
        rotate_left 2
        ·intro w' hC
         obtain ⟨z1, z2, z3, z4⟩ := HCF.out w' (Grows.trans HCw5.out hC)
         clear hC
         go_simp
         try with_reducible rfl
        ·simp only [Pu]
         try rfl)
      refine wpQuiet_nil ?_
      intro w6 hC
      have HCw6 := hid hC
      clear hC
      obtain ⟨z1, z2, z3, z4⟩ := HCF.out w6 (Grows.trans HCw5.out HCw6.out)
      have HRW := hid (Zd HR.out (Grows.trans HCw5.out HCw6.out))
      have HGX := hid (Grows.trans HG.out (Grows.trans HCw5.out HCw6.out))
      have HN := hid (show o.flatMap enC ++ enC p = (o ++ [p]).flatMap enC by rw [List.flatMap_append]; simp)
      have HR2 := hid (Zd HRW.out (Zb w6 (.cells #[.string ⟨p.1.toArray⟩, .int .i64 (p.2 : Int)] 84)))
      go_wp2_with (first
       | (at_builtin
          refine Z0 rfl (.tmp 38) (.tmp 43) 61 rfl (w.heap.size + 1) 84 i1 (.agg #[.string ⟨#[]⟩, .int .i64 0]) 2 24 Tryz.underlying61 HI1.out.1 HI1.out.2.1 HI1.out.2.2.1 HI1.out.2.2.2 rfl (by decide) rfl
           HR2.out rfl (Zay _ _ _) (fun h => by cases h) (Zcq p) (q + 1) rfl (by unfold maxLen; have := HLT.out; omega) (by have := HLT.out; omega) (Nat.le_trans (by have := HGX.out.size; rw [World.size_alloc] at this; exact this) (Z1 _ _)) ?_
          intro L2 lc2 w8 hr5 hg5 hat5
          have HR5 := hid hr5
          have HG5 := hid (show Grows (w.alloc (.cells #[.string ⟨e.1.toArray⟩, .int .i64 (e.2 : Int)] 84)) w8 from Below.grown (Grows.trans HGX.out (Zb w6 (.cells #[.string ⟨p.1.toArray⟩, .int .i64 (p.2 : Int)] 84))) hg5 (Nat.le_trans HGX.out.size (Z1 _ _)) fun k hk => by rw [World.size_alloc]; exact (HR2.out.lt k hk).1)
          clear hr5 hg5 hat5))
      exact ⟨⟨j + 1, q + 1, true, L2, lc2, o ++ [p], HLT.out.1, by have := HLT.out; omega, rfl, rfl, rfl, hid (by rw [List.length_append, ← HQ.out]; rfl), HPN, hid (fun h => by cases h), hid (HN.out ▸ HR5.out), HG5⟩, Yb HLT.out.1⟩
   | false =>
     have HQJ := hid (HDQ.out rfl)
     by_cases hbb : bytesBefore p.1 e.1 = true
     ·have hb : (p.1 == e.1) = false := by
       rw [beq_eq_false_iff_ne]
       intro h
       rw [h, bef_irrefl] at hbb
       cases hbb
      have HPN := hid (HP.out.low HPP.out hbb)
      have HBL := hid (show Op.bytesLess p.1 e.1 = true by rw [HLS.out]; exact hbb)
      clear hbb
      go_wp2_with (fail)
      refine Zo mixed (by kernel_rfl) ?_
      iterate 12
       (refine q_op' (v := ?_) (a' := ?_) (by rfl) ?_ ?_ ?_
        rotate_left 2
        ·intro w' hC
         obtain ⟨z1, z2, z3, z4⟩ := HCF.out w' (hC)
         have hbl := HBL.out
         clear hC
         go_simp
         try with_reducible rfl
        ·simp only [Pu]
         try rfl)
      refine wpQuiet_nil ?_
      intro w5 hC
      have HCw5 := hid hC
      clear hC
      go_wp2_with (fail)
      refine Zo mixed (by kernel_rfl) ?_
      iterate 8
       (refine q_op' (v := ?_) (a' := ?_) (by rfl) ?_ ?_ ?_
        rotate_left 2
        ·intro w' hC
         obtain ⟨z1, z2, z3, z4⟩ := HCF.out w' (Grows.trans HCw5.out hC)
         clear hC
         go_simp
         try with_reducible rfl
        ·simp only [Pu]
         try rfl)
      refine wpQuiet_nil ?_
      intro w6 hC
      have HCw6 := hid hC
      clear hC
      obtain ⟨z1, z2, z3, z4⟩ := HCF.out w6 (Grows.trans HCw5.out HCw6.out)
      have HRW := hid (Zd HR.out (Grows.trans HCw5.out HCw6.out))
      have HGX := hid (Grows.trans HG.out (Grows.trans HCw5.out HCw6.out))
      have HN := hid (show o.flatMap enC ++ enC p = (o ++ [p]).flatMap enC by rw [List.flatMap_append]; simp)
      have HR2 := hid (Zd HRW.out (Zb w6 (.cells #[.string ⟨p.1.toArray⟩, .int .i64 (p.2 : Int)] 84)))
      go_wp2_with (first
       | (at_builtin
          refine Z0 rfl (.tmp 38) (.tmp 43) 61 rfl (w.heap.size + 1) 84 i1 (.agg #[.string ⟨#[]⟩, .int .i64 0]) 2 24 Tryz.underlying61 HI1.out.1 HI1.out.2.1 HI1.out.2.2.1 HI1.out.2.2.2 rfl (by decide) rfl
           HR2.out rfl (Zay _ _ _) (fun h => by cases h) (Zcq p) (q + 1) rfl (by unfold maxLen; have := HLT.out; omega) (by have := HLT.out; omega) (Nat.le_trans (by have := HGX.out.size; rw [World.size_alloc] at this; exact this) (Z1 _ _)) ?_
          intro L2 lc2 w8 hr5 hg5 hat5
          have HR5 := hid hr5
          have HG5 := hid (show Grows (w.alloc (.cells #[.string ⟨e.1.toArray⟩, .int .i64 (e.2 : Int)] 84)) w8 from Below.grown (Grows.trans HGX.out (Zb w6 (.cells #[.string ⟨p.1.toArray⟩, .int .i64 (p.2 : Int)] 84))) hg5 (Nat.le_trans HGX.out.size (Z1 _ _)) fun k hk => by rw [World.size_alloc]; exact (HR2.out.lt k hk).1)
          clear hr5 hg5 hat5))
      exact ⟨⟨j + 1, q + 1, false, L2, lc2, o ++ [p], HLT.out.1, by have := HLT.out; omega, rfl, rfl, rfl, hid (by rw [List.length_append, ← HQ.out]; rfl), HPN, hid (fun _ => by have := HQJ.out; omega), hid (HN.out ▸ HR5.out), HG5⟩, Yb HLT.out.1⟩
     ·have HBL := hid (show Op.bytesLess p.1 e.1 = false by rw [HLS.out]; simpa using hbb)
      have HPN := hid (HP.out.here HPP.out (by simpa using hbb))
      clear hbb
      go_wp2_with (fail)
      refine Zo mixed (by kernel_rfl) ?_
      iterate 12
       (refine q_op' (v := ?_) (a' := ?_) (by rfl) ?_ ?_ ?_
        rotate_left 2
        ·intro w' hC
         obtain ⟨z1, z2, z3, z4⟩ := HCF.out w' (hC)
         have hbl := HBL.out
         clear hC
         go_simp
         try with_reducible rfl
        ·simp only [Pu]
         try rfl)
      refine wpQuiet_nil ?_
      intro w5 hC
      have HCw5 := hid hC
      clear hC
      obtain ⟨z1, z2, z3, z4⟩ := HCF.out w5 HCw5.out
      have HRW := hid (Zd HR.out HCw5.out)
      have HGX := hid (Grows.trans HG.out HCw5.out)
      have HN := hid (show o.flatMap enC ++ enC e = (o ++ [e]).flatMap enC by rw [List.flatMap_append]; simp)
      have HR2 := hid (Zd HRW.out (Zb w5 (.cells #[.string ⟨e.1.toArray⟩, .int .i64 (e.2 : Int)] 84)))
      go_wp2_with (first
       | (at_builtin
          refine Z0 rfl (.tmp 26) (.tmp 28) 61 rfl (w.heap.size + 1) 84 i1 (.agg #[.string ⟨#[]⟩, .int .i64 0]) 2 24 Tryz.underlying61 HI1.out.1 HI1.out.2.1 HI1.out.2.2.1 HI1.out.2.2.2 rfl (by decide) rfl
           HR2.out rfl (Zay _ _ _) (fun h => by cases h) (Zcq e) (q + 1) rfl (by unfold maxLen; have := HLT.out; omega) (by have := HLT.out; omega) (Nat.le_trans (by have := HGX.out.size; rw [World.size_alloc] at this; exact this) (Z1 _ _)) ?_
          intro L2 lc2 w8 hr5 hg5 hat5
          have HR5 := hid hr5
          have HG5 := hid (show Grows (w.alloc (.cells #[.string ⟨e.1.toArray⟩, .int .i64 (e.2 : Int)] 84)) w8 from Below.grown (Grows.trans HGX.out (Zb w5 (.cells #[.string ⟨e.1.toArray⟩, .int .i64 (e.2 : Int)] 84))) hg5 (Nat.le_trans HGX.out.size (Z1 _ _)) fun k hk => by rw [World.size_alloc]; exact (HR2.out.lt k hk).1)
          clear hr5 hg5 hat5))
      have hcx := (show ∀ w', Grows w8 w' → w'.cell? { block := g, off := j * 2 } = some (.string ⟨p.1.toArray⟩) ∧ w'.cell? { block := g, off := j * 2 + 1 } = some (.int .i64 (p.2 : Int)) ∧ w'.cell? { block := w.heap.size, off := 0 } = some (.string ⟨e.1.toArray⟩) ∧ w'.cell? { block := w.heap.size, off := 1 } = some (.int .i64 (e.2 : Int)) from fun w' hg' => HCX.out w' (Grows.trans HG5.out hg'))
      have HCF2 := hid hcx
      clear hcx
      have HRW1 := hid (show w8.ownsRow (w.heap.size + 1) 84 2 (.slice L2 (q + 1) lc2) (q + 1) ((o ++ [e]).flatMap enC) from HN.out ▸ HR5.out)
      by_cases hpe : p.1 = e.1
      ·have hb : (p.1 == e.1) = true := by rw [beq_iff_eq]; exact hpe
       rw [if_pos hpe, List.append_nil] at HPN
       clear hpe
       go_wp2_with (fail)
       refine Zo mixed (by kernel_rfl) ?_
       iterate 8
        (refine q_op' (v := ?_) (a' := ?_) (by rfl) ?_ ?_ ?_
         rotate_left 2
         ·intro w' hC
          obtain ⟨z1, z2, z3, z4⟩ := HCF2.out w' hC
          clear hC
          go_simp
          try with_reducible rfl
         ·simp only [Pu]
          try rfl)
       refine wpQuiet_nil ?_
       intro w9 hC
       have HCw9 := hid hC
       clear hC
       go_wp2_with (fail)
       exact ⟨⟨j + 1, q + 1, true, L2, lc2, o ++ [e], HLT.out.1, by have := HLT.out; omega, rfl, rfl, rfl, hid (by rw [List.length_append, ← HQ.out]; rfl), HPN, hid (fun h => by cases h), hid (Zd HRW1.out HCw9.out), hid (Grows.trans HG5.out HCw9.out)⟩, Yb HLT.out.1⟩
      ·have hb : (p.1 == e.1) = false := by rw [beq_eq_false_iff_ne]; exact hpe
       rw [if_neg hpe] at HPN
       clear hpe
       go_wp2_with (fail)
       refine Zo mixed (by kernel_rfl) ?_
       iterate 8
        (refine q_op' (v := ?_) (a' := ?_) (by rfl) ?_ ?_ ?_
         rotate_left 2
         ·intro w' hC
          obtain ⟨z1, z2, z3, z4⟩ := HCF2.out w' hC
          clear hC
          go_simp
          try with_reducible rfl
         ·simp only [Pu]
          try rfl)
       refine wpQuiet_nil ?_
       intro w9 hC
       have HCw9 := hid hC
       clear hC
       obtain ⟨z1, z2, z3, z4⟩ := HCF2.out w9 HCw9.out
       have HRW2 := hid (Zd HRW1.out HCw9.out)
       have HGX2 := hid (Grows.trans HG5.out HCw9.out)
       have HN2 := hid (show (o ++ [e]).flatMap enC ++ enC p = (o ++ [e] ++ [p]).flatMap enC by rw [List.flatMap_append]; simp)
       have HR3 := hid (Zd HRW2.out (Zb w9 (.cells #[.string ⟨p.1.toArray⟩, .int .i64 (p.2 : Int)] 84)))
       go_wp2_with (first
        | (at_builtin
           refine Z0 rfl (.tmp 38) (.tmp 43) 61 rfl (w.heap.size + 1) 84 i1 (.agg #[.string ⟨#[]⟩, .int .i64 0]) 2 24 Tryz.underlying61 HI1.out.1 HI1.out.2.1 HI1.out.2.2.1 HI1.out.2.2.2 rfl (by decide) rfl
            HR3.out rfl (Zay _ _ _) (fun h => by cases h) (Zcq p) (q + 1 + 1) rfl (by unfold maxLen; have := HLT.out; omega) (by have := HLT.out; omega) (Nat.le_trans (by have := HGX2.out.size; rw [World.size_alloc] at this; exact this) (Z1 _ _)) ?_
           intro L3 lc3 w10 hr5 hg5 hat5
           have HR6 := hid hr5
           have HG6 := hid (show Grows (w.alloc (.cells #[.string ⟨e.1.toArray⟩, .int .i64 (e.2 : Int)] 84)) w10 from Below.grown (Grows.trans HGX2.out (Zb w9 (.cells #[.string ⟨p.1.toArray⟩, .int .i64 (p.2 : Int)] 84))) hg5 (Nat.le_trans HGX2.out.size (Z1 _ _)) fun k hk => by rw [World.size_alloc]; exact (HR3.out.lt k hk).1)
           clear hr5 hg5 hat5))
       exact ⟨⟨j + 1, q + 1 + 1, true, L3, lc3, o ++ [e] ++ [p], HLT.out.1, by have := HLT.out; have := HQJ.out; omega, rfl, rfl, rfl, hid (by rw [List.length_append, List.length_append, ← HQ.out]; rfl), HPN, hid (fun h => by cases h), hid (HN2.out ▸ HR6.out), HG6⟩, Yb HLT.out.1⟩
  ·obtain rfl : j = n := by omega
   have HTK := hid (show l.take j = l from List.take_of_length_le (by rw [HL.out]; exact Nat.le_refl _))
   have HPZ := hid (show PutS e l dn o from HTK.out ▸ HP.out)
   cases dn with
   | true =>
     go_wp2_with (fail)
     go_ret
     have ho := HPZ.out.end_
     have hr := HR.out
     have hq := HQ.out
     rw [ho] at hr hq
     exact ⟨_, rfl, Zj (hq ▸ hr) (Nat.le_succ _), HGW.out⟩
   | false =>
     have HQJ := hid (HDQ.out rfl)
     have HLT := hid (And.intro hq hn)
     have HRW := hid HR.out
     have HGX := hid HG.out
     have HN := hid (show o.flatMap enC ++ enC e = (o ++ [e]).flatMap enC by rw [List.flatMap_append]; simp)
     have HR2 := hid (Zd HRW.out (Zb wr (.cells #[.string ⟨e.1.toArray⟩, .int .i64 (e.2 : Int)] 84)))
     go_wp2_with (first
      | (at_builtin
         refine Z0 rfl (.tmp 47) (.tmp 49) 61 rfl (w.heap.size + 1) 84 i1 (.agg #[.string ⟨#[]⟩, .int .i64 0]) 2 24 Tryz.underlying61 HI1.out.1 HI1.out.2.1 HI1.out.2.2.1 HI1.out.2.2.2 rfl (by decide) rfl
          HR2.out rfl (Zay _ _ _) (fun h => by cases h) (Zcq e) (q + 1) rfl (by unfold maxLen; have := HLT.out; omega) (by have := HLT.out; omega) (Nat.le_trans (by have := HGX.out.size; rw [World.size_alloc] at this; exact this) (Z1 _ _)) ?_
         intro L2 lc2 w8 hr5 hg5 hat5
         have HR5 := hid hr5
         have HG5 := hid (show Grows (w.alloc (.cells #[.string ⟨e.1.toArray⟩, .int .i64 (e.2 : Int)] 84)) w8 from Below.grown (Grows.trans HGX.out (Zb wr (.cells #[.string ⟨e.1.toArray⟩, .int .i64 (e.2 : Int)] 84))) hg5 (Nat.le_trans HGX.out.size (Z1 _ _)) fun k hk => by rw [World.size_alloc]; exact (HR2.out.lt k hk).1)
         clear hr5 hg5 hat5))
     go_ret
     have ho := HPZ.out.last
     have hr : w8.ownsRow (w.heap.size + 1) 84 2 (.slice L2 (q + 1) lc2) (q + 1) (o.flatMap enC ++ enC e) := HR5.out
     rw [HN.out, ho] at hr
     have hq2 : q + 1 = (rput e l).length := by rw [← ho, List.length_append, ← HQ.out]; rfl
     exact ⟨_, rfl, Zj (hq2 ▸ hr) (Nat.le_succ _), Grows.trans HG0.out HG5.out⟩
end Go.Proofs.YtlldcogkcjnejaaGreat
namespace Go.Proofs.YtlldcogkcjnejaaGreat
open Go.Lib (hid)
open Go.RowKit
def Zlu (B : Nat) (l : Dir) : Fact Grows := ⟨Option Addr × Nat, (none, 0), fun p => .slice p.1 l.length p.2, fun p w => w.ownsRow B 84 2 (.slice p.1 l.length p.2) l.length (l.flatMap enC), fun _ _ _ h g => Zd h g⟩
theorem f_en {P : Program} {ops : Array Oper} {W : World} {Q : Act → World → Prop} {o : Oper} {rest : List Oper} {fs : List (Fact Grows)} {ks : Known} {a : Act} (B : Nat) (l : Dir) (f : FuncId) (args : Array Value) (hw : Region.wanted o (yielded ops a.tmps) = true) (h1 : ∀ w, Grows W w → (execOp a.eval o).run P w = .ok (.enter f args) w)
 (hB : B ≤ W.heap.size) (hc : ∀ w, Grows W w → ks.for (o.looksAt ops) w → Calls P f args w fun e w' => REnTo w l e w')
 (h2 : ∀ A c, wpF P ops Grows W Q rest fs ((o.dst, fun w => w.ownsRow B 84 2 (.slice A l.length c) l.length (l.flatMap enC)) :: ks) (a.put o.dst (.slice A l.length c))) :
 wpF P ops Grows W Q (o :: rest) (Zlu B l :: fs) ks a := by
 unfold wpF fStep
 rw [if_pos hw]
 refine ⟨fun w hW hk => ?_, fun x => h2 x.1 x.2⟩
 unfold gives
 rw [h1 w hW]
 refine (hc w hW hk).mono ?_
 rintro e w' ⟨v, rfl, hr, hg⟩
 obtain ⟨A, c, rfl⟩ := Z8 hr
 exact ⟨hg, (A, c), rfl, Zj hr (Nat.le_trans hB hW.size)⟩
theorem Zgx {P : Program} {Q : Exit → Act → World → Prop} {ops : Array Oper} {o : Oper} {rest : List Oper} {a : Act} {w : World} (hg : o.guard = none) (x : Operand) (ho : o.op = .assign x) (h : wpList P ops Q rest (a.put o.dst (a.eval x)) w) : wpList P ops Q (o :: rest) a w := by
 refine wpList_plain hg fun K hK => ?_
 unfold Oper.wp execOp
 simp only [ho, Sem.run_pure]
 exact hK _ _ h
def RDoTo (w : World) (v0 : Value) (l : Dir) (e : Ending) (w' : World) : Prop := ∃ v, e = .returned v ∧ w'.ownsRow 0 84 2 v l.length (l.flatMap enC) ∧ (∀ k, v.ownBlock = some k → v0.ownBlock = some k ∨ w.heap.size ≤ k) ∧ Grows w w'
theorem RDoTo.of {w w' : World} {v0 : Value} {l : Dir} {e : Ending} {w1 : World} (h : REnTo w1 l e w') (hg : Grows w w1) : RDoTo w v0 l e w' := by
 obtain ⟨v, rfl, hr, hg2⟩ := h
 exact ⟨v, rfl, Zj hr (Nat.zero_le _), fun k hk => .inr (Nat.le_trans hg.size (hr.lt k hk).1), Grows.trans hg hg2⟩
set_option maxHeartbeats 4000000 in
set_option maxRecDepth 100000 in
theorem Zgy (w : World) {A : Option Addr} {n c : Nat} {l : Dir} (ch : Ch) (h : w.ownsRow 0 84 2 (.slice A n c) n (l.flatMap enC)) (hl : l.length = n) (hn : n ≤ 100000) :
 Calls Tryz.prog 72 #[.slice A n c, .agg (chC ch).toArray] w fun e w' => RDoTo w (.slice A n c) (rdoes ch l) e w' := by
 have hrw := Rw.owned enL hl h
 have H := hid (And.intro h hrw)
 have HL := hid hl
 have HG0 := hid (Zb w (.cells (chC ch).toArray 117))
 have HO := hid (Whole.made w 117 (chC ch).toArray)
 clear h hl hrw
 cases ch with
 | made x f =>
   have c0 : (w.alloc (.cells (chC (.made x f)).toArray 117)).cell? ⟨w.heap.size, 0, none⟩ = some (.int .i64 1) := HO.out.cell 0
   have c1 : (w.alloc (.cells (chC (.made x f)).toArray 117)).cell? ⟨w.heap.size, 1, none⟩ = some (.string ⟨x.toArray⟩) := HO.out.cell 1
   have c3 : (w.alloc (.cells (chC (.made x f)).toArray 117)).cell? ⟨w.heap.size, 3, none⟩ = some (.int .i64 (f : Int)) := HO.out.cell 3
   have HFI := hid (Yu _ (c := c) x (H.out.2.grow HG0.out) (by omega))
   have HPU := hid (Zjd _ (c := c) (x, f) (H.out.2.grow HG0.out) hn)
   go_enter Tryz.func72, Tryz.ntmps72
   go_wp2_with (fail)
   refine HFI.out.mono ?_
   rintro e w1 ⟨rfl, rfl⟩
   go_wp2_with (fail)
   refine HPU.out.mono ?_
   rintro e w2 hr
   have HR := hid (RDoTo.of (v0 := .slice A n c) hr HG0.out)
   obtain ⟨v, rfl, _⟩ := hr
   go_wp2_with (fail)
   go_ret
   exact HR.out
 | taken x =>
   have c0 : (w.alloc (.cells (chC (.taken x)).toArray 117)).cell? ⟨w.heap.size, 0, none⟩ = some (.int .i64 3) := HO.out.cell 0
   have c1 : (w.alloc (.cells (chC (.taken x)).toArray 117)).cell? ⟨w.heap.size, 1, none⟩ = some (.string ⟨x.toArray⟩) := HO.out.cell 1
   have HFI := hid (Yu _ (c := c) x (H.out.2.grow HG0.out) (by omega))
   have HPU := hid (Zg0 _ (c := c) x (H.out.2.grow HG0.out) hn)
   go_enter Tryz.func72, Tryz.ntmps72
   go_wp2_with (fail)
   refine HFI.out.mono ?_
   rintro e w1 ⟨rfl, rfl⟩
   go_wp2_with (fail)
   refine HPU.out.mono ?_
   rintro e w2 hr
   have HR := hid (RDoTo.of (v0 := .slice A n c) hr HG0.out)
   obtain ⟨v, rfl, _⟩ := hr
   go_wp2_with (fail)
   go_ret
   exact HR.out
 | moved x y =>
   change Calls Tryz.prog 72 #[.slice A n c, .agg #[.int .i64 2, .string ⟨x.toArray⟩, .string ⟨y.toArray⟩, .int .i64 0]] w _
   have HG0' := hid (show Grows w (w.alloc (.cells #[.int .i64 2, .string ⟨x.toArray⟩, .string ⟨y.toArray⟩, .int .i64 0] 117)) from HG0.out)
   have HO' := hid (show Whole (w.alloc (.cells #[.int .i64 2, .string ⟨x.toArray⟩, .string ⟨y.toArray⟩, .int .i64 0] 117)) w.heap.size 117 #[.int .i64 2, .string ⟨x.toArray⟩, .string ⟨y.toArray⟩, .int .i64 0] from HO.out)
   clear HG0 HO
   obtain ⟨W1, hW1⟩ : ∃ W1, w.alloc (.cells #[.int .i64 2, .string ⟨x.toArray⟩, .string ⟨y.toArray⟩, .int .i64 0] 117) = W1 := ⟨_, rfl⟩
   have HG0 := hid (show Grows w W1 from hW1 ▸ HG0'.out)
   have HO := hid (show Whole W1 w.heap.size 117 #[.int .i64 2, .string ⟨x.toArray⟩, .string ⟨y.toArray⟩, .int .i64 0] from hW1 ▸ HO'.out)
   clear HG0' HO'
   have c0 : W1.cell? ⟨w.heap.size, 0, none⟩ = some (.int .i64 2) := HO.out.cell 0
   have c1 : W1.cell? ⟨w.heap.size, 1, none⟩ = some (.string ⟨x.toArray⟩) := HO.out.cell 1
   have c2 : W1.cell? ⟨w.heap.size, 2, none⟩ = some (.string ⟨y.toArray⟩) := HO.out.cell 2
   have HFI := hid (Yu W1 (c := c) x (H.out.2.grow HG0.out) (by omega))
   rcases Jm (n := x) (l := l) with ⟨hf, hx⟩ | ⟨i, f, hf, hx, hi⟩
   ·rw [hx] at HFI
    have HRD := hid (show rdoes (.moved x y) l = l by show (match Dir.find x l with | some f => rput (y, f) (Dir.del x l) | none => l) = l; rw [hf])
    clear hf hx
    go_enter Tryz.func72, Tryz.ntmps72
    go_wp2_with (fail)
    refine HFI.out.mono ?_
    rintro e w1 ⟨rfl, rfl⟩
    go_wp2_with (fail)
    go_ret
    rw [HRD.out]
    exact ⟨_, rfl, HL.out.symm ▸ Zd H.out.1 HG0.out, fun k hk => .inl hk, HG0.out⟩
   ·rw [hx] at HFI
    have HRD := hid (show rdoes (.moved x y) l = rput (y, f) (Dir.del x l) by show (match Dir.find x l with | some f => rput (y, f) (Dir.del x l) | none => l) = _; rw [hf])
    obtain ⟨g, hA, hg, hc⟩ := H.out.2.spot i _ hi
    subst hA
    have hil : i < n := by rw [← HL.out]; exact (List.getElem?_eq_some_iff.1 hi).1
    have hiI : (i : Int) < (n : Int) := by omega
    have hi0 : (0 : Int) ≤ (i : Int) := by omega
    have hin : ¬ (i : Int) < 0 := by omega
    have c4 : W1.cell? { block := g, off := i * 2 + 1 } = some (.int .i64 (f : Int)) := by
     rw [HG0.out.cell (show (⟨g, i * 2 + 1, none⟩ : Addr).block < w.heap.size from hg)]; exact hc 1 (by omega)
    have hgs : g < W1.heap.size := Nat.lt_of_lt_of_le hg HG0.out.size
    have hws : w.heap.size < W1.heap.size := HO.out.lt
    have hne1 : ¬ g = W1.heap.size := by omega
    have hne2 : ¬ w.heap.size = W1.heap.size := by omega
    clear hf hx hi hc
    go_enter Tryz.func72, Tryz.ntmps72
    go_wp2_with (fail)
    refine HFI.out.mono ?_
    rintro e w1 ⟨rfl, rfl⟩
    go_wp2_with (fail)
    go_region
    go_wp2_with (fail)
    have hmd := Whole.made W1 84 #[.string ⟨y.toArray⟩, .int .i64 (f : Int)]
    have hga := Zb W1 (.cells #[.string ⟨y.toArray⟩, .int .i64 (f : Int)] 84)
    obtain ⟨W2, hW2⟩ : ∃ W2, (W1.alloc (.cells #[.string ⟨y.toArray⟩, .int .i64 (f : Int)] 84)).drew = W2 := ⟨_, rfl⟩
    have hgd : Grows (W1.alloc (.cells #[.string ⟨y.toArray⟩, .int .i64 (f : Int)] 84)) W2 := hW2 ▸ Ze _
    have HG2 := hid (show Grows W1 W2 from Grows.trans hga hgd)
    have HM2 := hid (hgd.whole hmd)
    rw [hW2]
    clear hmd hga hgd hW2 hW1
    have HCF := hid (show ∀ w', Grows W2 w' → w'.cell? { block := w.heap.size, off := 1 } = some (.string ⟨x.toArray⟩) ∧ w'.cell? { block := W1.heap.size, off := 0 } = some (.string ⟨y.toArray⟩) ∧ w'.cell? { block := W1.heap.size, off := 1 } = some (.int .i64 (f : Int)) from fun w' hg' =>
     ⟨((Grows.trans HG2.out hg').whole HO.out).cell 1, (hg'.whole HM2.out).cell 0, (hg'.whole HM2.out).cell 1⟩)
    have HDL := hid (show (Dir.del x l).length ≤ 100000 by
     have : (Dir.del x l).length ≤ l.length := List.length_filter_le _ _
     have := HL.out
     omega)
    clear c0 c1 c2 c4
    refine Zh (E := Grows) 6 [Za (.slice (some ⟨g, 0, none⟩) n c), Za (.pointer (some ⟨w.heap.size, 1, none⟩)), Za (.string ⟨x.toArray⟩), Zlu w.heap.size (Dir.del x l), Za ((.agg #[.string ⟨y.toArray⟩, .int .i64 (f : Int)])), Zlu w.heap.size (rput (y, f) (Dir.del x l))] mixed (by kernel_rfl) (fun _ _ _ => Grows.trans) (Ze _) ?_
    simp only [List.take_succ_cons, List.take_zero, List.drop_succ_cons, List.drop_zero]
    iterate 2
     refine f_val _ (by rfl) ?_ ?_
     ·intro w' hC; clear hC; go_simp
     simp only [Pu]
    refine f_val _ (by rfl) ?_ ?_
    ·intro w' hC; obtain ⟨z1, z2, z3⟩ := HCF.out w' hC; clear hC; go_simp
    simp only [Pu]
    refine f_en w.heap.size (Dir.del x l) 111 #[.slice (some ⟨g, 0, none⟩) n c, .string ⟨x.toArray⟩] (by rfl) (by intro w' hC; clear hC; go_simp) (Nat.le_trans HG0.out.size HG2.out.size) ?_ ?_
    ·intro w' hC hks; exact Zg0 w' (c := c) x (H.out.2.grow (Grows.trans HG0.out (Grows.trans HG2.out hC))) hn
    intro A1 c1
    simp only [Pu]
    refine f_val _ (by rfl) ?_ ?_
    ·intro w' hC; obtain ⟨z1, z2, z3⟩ := HCF.out w' hC; clear hC; go_simp
    simp only [Pu]
    refine f_en w.heap.size (rput (y, f) (Dir.del x l)) 110 #[.slice A1 (Dir.del x l).length c1, (.agg #[.string ⟨y.toArray⟩, .int .i64 (f : Int)])] (by rfl) (by intro w' hC; clear hC; go_simp) (Nat.le_trans HG0.out.size HG2.out.size) ?_ ?_
    ·intro w' hC hks; exact Zjd w' (c := c1) (y, f) (Rw.owned enL rfl (Zj (Known.get hks 0 rfl rfl : w'.ownsRow w.heap.size 84 2 (.slice A1 (Dir.del x l).length c1) (Dir.del x l).length ((Dir.del x l).flatMap enC)) (Nat.zero_le _))) HDL.out
    intro A2 c2
    simp only [Pu]
    refine Zv ?_
    intro w6 hC hks
    have HCw6 := hid hC
    have HK := hid (Known.at hks 0 rfl)
    clear hC hks
    refine Zgx rfl (.tmp 44) rfl ?_
    simp only [Pu]
    go_wp2_with (fail)
    go_ret
    rw [HRD.out]
    exact ⟨_, rfl, Zj HK.out (Nat.zero_le _), fun k hk => .inr (HK.out.lt k hk).1, Grows.trans (Grows.trans HG0.out HG2.out) HCw6.out⟩
end Go.Proofs.YtlldcogkcjnejaaGreat
