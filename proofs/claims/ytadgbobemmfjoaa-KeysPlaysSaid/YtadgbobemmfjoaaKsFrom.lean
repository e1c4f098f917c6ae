/-
  A directory's From, List.
-/
import Derived.Test.YtadgbobemmfjoaaKsTell
namespace Go.Proofs.Ytadgbobemmfjoaa
open Go.RowKit
set_option linter.unusedVariables false
set_option linter.unusedSimpArgs false

def tellV (kb cb tb lb mb : Nat) : Value := .func (.func 33) #[] #[.pointer (some ⟨kb, 0, none⟩), .pointer (some ⟨cb, 0, none⟩), .pointer (some ⟨tb, 0, none⟩), .pointer (some ⟨lb, 0, none⟩), .pointer (some ⟨mb, 0, none⟩)]
set_option maxHeartbeats 1000000 in
theorem each1_any {W0 : World} {kb cb tb lb mb xb : Nat} {key : List UInt8} {m : Nat} {t : Ks} (p : Pl) (w : World) (hB : FromB W0 kb cb tb lb mb key m) (hm : m ≤ 9223372036854775807) (h : FromJ W0 cb tb lb key m t w) (ht : t.length < 1000000) (hx : w.cell? ⟨xb, 0, none⟩ = some (tellV kb cb tb lb mb)) :
    Calls Try.prog 43 #[plV p, .pointer (some ⟨xb, 0, none⟩)] w fun e w' => e = .returned (.tuple #[]) ∧ FromJ W0 cb tb lb key m (t ++ [p.key]) w' := by
  have hxl := World.block_lt_of_cell? w ⟨xb, 0, none⟩ hx
  obtain ⟨p0, p1, p2, p3, p4⟩ := p
  show Calls _ _ #[.agg #[.int .i64 p0, .int .i64 p1, .string ⟨p2.toArray⟩, .int .i64 p3, .int .i64 p4], _] _ _
  dsimp only
  have hg1 := grows_alloc w (.cells #[.int .i64 p0, .int .i64 p1, .string ⟨p2.toArray⟩, .int .i64 p3, .int .i64 p4] 32)
  have hm1 := Whole.made w 32 #[.int .i64 p0, .int .i64 p1, .string ⟨p2.toArray⟩, .int .i64 p3, .int .i64 p4]
  obtain ⟨W1, hW1⟩ : ∃ W1, w.alloc (.cells #[.int .i64 p0, .int .i64 p1, .string ⟨p2.toArray⟩, .int .i64 p3, .int .i64 p4] 32) = W1 := ⟨_, rfl⟩
  rw [hW1] at hg1 hm1
  have c2 := hm1.cell 2
  simp only [List.getElem?_toArray, List.getElem?_cons_zero, List.getElem?_cons_succ] at c2
  have cx := (hg1.cell (p := ⟨xb, 0, none⟩) hxl).trans hx
  unfold tellV at cx
  have HT := Lib.hid (tell_any p2 W1 hB hm (h.grow hg1) ht)
  clear hg1 hm1 hB h ht hx
  go_enter Try.func43, Try.ntmps43
  go_wp2_with (first | rw [hW1] | fail)
  refine HT.out.mono ?_
  rintro e w2 ⟨rfl, h2⟩
  have H2 := Lib.hid h2
  clear h2
  go_wp2_with (fail)
  refine bodyPost_end (results_none rfl _ _ _) rfl ?_
  exact ⟨rfl, H2.out⟩
def toldR (R : Rows) (i : Nat) : List Pl := (List.range i).flatMap fun r => (R r).flatten
theorem toldR_step (R : Rows) (i : Nat) : toldR R (i + 1) = toldR R i ++ (R i).flatten := by
  unfold toldR
  rw [List.range_succ, List.flatMap_append]
  simp
theorem toldR_len (R : Rows) (i : Nat) : (toldR R i).length = sumR R i := by
  unfold toldR sumR
  rw [List.length_flatMap]
set_option maxHeartbeats 1000000 in
theorem deach_any {d : Nat} {own : Nat → Prop} {L : List Pl} {R : Rows} {G : Nat → Nat} {S : Nat → Nat → Prop} {vs : Nat → List Value} {cs : Array Value} {kb cb tb lb mb : Nat} {key : List UInt8} {m : Nat} (w : World) (hM : DirMem w d own R G S vs cs) (hK : KsOk R L) (hn : L.length < 400000)
    (hB : FromB w kb cb tb lb mb key m) (hm : 0 < m ∧ m ≤ 9223372036854775807) (hb1 : Boxed w cb 4 (.bool false)) (hb2 : Boxed w tb 9 (kS [])) (hb3 : Boxed w lb 38 (.slice none 0 0)) (hoff : ∀ k, (own k ∨ k = d) → k ≠ cb ∧ k ≠ tb ∧ k ≠ lb) :
    Calls Try.prog 32 #[.pointer (some ⟨d, 0, none⟩), tellV kb cb tb lb mb] w fun e w' => e = .returned (.tuple #[]) ∧ ∃ W0, Grows w W0 ∧ FromJ W0 cb tb lb key m ((flatR R).map (·.key)) w' := by
  have hg1 := grows_alloc w (.cells #[tellV kb cb tb lb mb] 62)
  have hx1 := Boxed.new w 62 (tellV kb cb tb lb mb)
  obtain ⟨W1, hW1⟩ : ∃ W1, w.alloc (.cells #[tellV kb cb tb lb mb] 62) = W1 := ⟨_, rfl⟩
  rw [hW1] at hg1 hx1
  obtain ⟨xb, hxb⟩ : ∃ xb, w.heap.size = xb := ⟨_, rfl⟩
  rw [hxb] at hx1
  have hB1 : FromB W1 kb cb tb lb mb key m := ⟨hg1.whole hB.key, hg1.whole hB.many, hB.apart, by have := hB.lt; have := hg1.size; omega⟩
  have hJ0 : FromJ W1 cb tb lb key m ((toldR R 0).map (·.key)) W1 := ⟨[], false, [], none, 0, 0, ⟨hg1.whole hb1, hg1.whole hb2, hg1.whole hb3⟩, ⟨rfl, .inl ⟨rfl, rfl⟩⟩, Frm.begin hm.1, Spares.refl _ _⟩
  have HJ0 := Lib.hid hJ0
  have HX := Lib.hid (And.intro (hM.grow hg1) (And.intro hx1 (And.intro hB1 (And.intro hg1 (And.intro hoff (show xb ≠ cb ∧ xb ≠ tb ∧ xb ≠ lb from by have := hB.lt; omega))))))
  have HK := Lib.hid (And.intro hK (And.intro hn hm))
  unfold tellV at hW1
  clear hM hK hn hB hm hb1 hb2 hb3 hoff hg1 hx1 hB1 hJ0
  show Calls _ _ #[_, .func (.func 33) #[] #[.pointer (some ⟨kb, 0, none⟩), .pointer (some ⟨cb, 0, none⟩), .pointer (some ⟨tb, 0, none⟩), .pointer (some ⟨lb, 0, none⟩), .pointer (some ⟨mb, 0, none⟩)]] _ _
  go_enter Try.func32, Try.ntmps32
  go_wp2_with (first | rw [hW1] | fail)
  clear hW1
  go_loopw [5] (fun vi wr => ∃ (i : Nat), i ≤ 64 ∧ vi = .int .i64 (i : Int) ∧ Hid (FromJ W1 cb tb lb key m ((toldR R i).map (·.key)) wr)) (fun vi _ => 64 - (intOf vi).toNat)
  case atStart => exact ⟨0, Nat.zero_le _, rfl, HJ0⟩
  case round =>
    obtain ⟨i, hi, rfl, HJ⟩ := hrel
    by_cases hlt : i < 64
    · have hE : Calls Try.prog 36 #[.pointer (some ⟨d, i * 2, none⟩), .func (.func 43) #[] #[.pointer (some ⟨xb, 0, none⟩)]] wr fun e w' => e = .returned (.tuple #[]) ∧ FromJ W1 cb tb lb key m ((toldR R (i + 1)).map (·.key)) w' := by
        obtain ⟨hM, hx1, hB1, hg1, hoff, hxn⟩ := HX.out
        obtain ⟨hK, hn, hm⟩ := HK.out
        have keepM : ∀ t w', FromJ W1 cb tb lb key m t w' → DirMem w' d own R G S vs cs ∧ w'.cell? ⟨xb, 0, none⟩ = some (tellV kb cb tb lb mb) := fun t w' hj => by
          obtain ⟨_, _, _, _, _, _, _, _, _, hs⟩ := hj
          refine ⟨hM.same hs.size (hs.same d hM.blk.lt (by have := hoff d (.inr rfl); omega)) fun k hk => hs.same k (hM.lt k hk) (by have := hoff k (.inl hk); omega), ?_⟩
          exact (World.cell?_of_block (a := ⟨xb, 0, none⟩) (hs.same xb hx1.lt (by omega))).trans hx1.cell
        have hMr := (keepM _ _ HJ.out).1
        obtain ⟨g, vsr, hra⟩ := (hMr.row hlt).at
        have hrc : CellsV wr (S i) (G i) (R i) (vs i) := hMr.cells i hlt
        have hle := hK.rowLe hlt
        have hra2 : RowAt wr d (i * 2) (S i) (G i) (R i) (vs i) := ⟨by rw [hMr.blk.cell]; exact hMr.word0 i hlt, by rw [hMr.blk.cell]; exact hMr.word1 i hlt, hrc, fun e => hMr.off (hMr.sub i hlt d e)⟩
        refine (each_tell (tb := xb) wr hra2 ⟨by have := hK.cellsLe hlt; omega, by omega⟩ (fun (done : List Pl) w' => FromJ W1 cb tb lb key m ((toldR R i ++ done).map (fun q : Pl => q.key)) w') (fun done w' hj => (keepM _ _ hj).1.cells i hlt) (fun done w' w'' hj hg => hj.grow hg) (by rw [List.append_nil]; exact HJ.out) (fun done p w' hj hr => ?_)).mono ?_
        · obtain ⟨rest, hrest⟩ := hr
          have hlen : ((toldR R i ++ done).map (·.key)).length < 1000000 := by
            rw [List.length_map, List.length_append, toldR_len]
            have h1 := hK.sumLe (i := i) (by omega)
            have h2 : done.length ≤ (R i).flatten.length := by rw [hrest]; simp
            omega
          refine (each1_any p w' hB1 hm.2 hj hlen (keepM _ _ hj).2).mono ?_
          rintro e w2 ⟨rfl, h2⟩
          refine ⟨rfl, ?_⟩
          rw [← List.append_assoc, List.map_append]
          exact h2
        · rintro e w' ⟨rfl, h2⟩
          exact ⟨rfl, by rw [toldR_step]; exact h2⟩
      have HE := Lib.hid hE
      obtain ⟨o, ho⟩ : ∃ o, i * 2 = o := ⟨_, rfl⟩
      rw [ho] at HE
      have k0 : (0 : Int) ≤ (i : Int) := by omega
      have k1 : (i : Int) < 64 := by omega
      clear hE
      go_wp2_with (first | rw [ho] | fail)
      refine HE.out.mono ?_
      rintro e w2 ⟨rfl, hj⟩
      have HJ2 := Lib.hid hj
      clear hj
      go_wp2_with (fail)
      go_roundw
      case rel => exact ⟨i + 1, by omega, by first | rfl | go_num, HJ2⟩
      case measure => simp [intOf]; omega
    · go_wp2_with (fail)
      refine bodyPost_end (results_none rfl _ _ _) rfl ?_
      obtain rfl : i = 64 := by omega
      exact ⟨rfl, W1, HX.out.2.2.2.1, HJ.out⟩
set_option maxHeartbeats 2000000 in
set_option maxRecDepth 100000 in
theorem kfrom_any {d : Nat} {own : Nat → Prop} {L : List Pl} (key : List UInt8) (N : Int) (hN : -9223372036854775808 ≤ N ∧ N ≤ 9223372036854775807) (w : World) (h : DirIn w d own L) (hn : L.length < 400000) :
    Calls Try.prog 18 #[.pointer (some ⟨d, 0, none⟩), .string ⟨key.toArray⟩, .int .i64 N] w fun e w' => ∃ A n c, e = .returned (.slice A n c) ∧ OwnS w' w.heap.size A n c (fromP key N.toNat L) ∧ Grows w w' := by
  by_cases hpos : N ≤ 0
  · have hm0 : fromP key N.toNat L = [] := by rw [show N.toNat = 0 by omega]; unfold fromP; simp
    rw [hm0]
    have HG := Lib.hid (Grows.trans (grows_alloc w (.cells #[.string ⟨key.toArray⟩] 9)) (grows_alloc (w.alloc (.cells #[.string ⟨key.toArray⟩] 9)) (.cells #[.int .i64 N] 3)))
    clear h
    go_enter Try.func18, Try.ntmps18
    go_wp2_with (fail)
    go_ret
    exact ⟨none, 0, 0, rfl, ⟨rfl, .inl ⟨rfl, rfl⟩⟩, HG.out⟩
  · obtain ⟨m, rfl⟩ : ∃ m : Nat, N = (m : Int) := ⟨N.toNat, by omega⟩
    rw [Int.toNat_natCast]
    obtain ⟨⟨R, G, S, vs, cs, hM, hK⟩, hkeys⟩ := h
    have hd := hM.blk.lt
    have hol := hM.lt
    have hmk := Whole.made w 9 #[kS key]
    have g1 := grows_alloc w (.cells #[kS key] 9)
    obtain ⟨V1, hV1⟩ : ∃ V1, w.alloc (.cells #[kS key] 9) = V1 := ⟨_, rfl⟩
    rw [hV1] at hmk g1
    have z1 : V1.heap.size = w.heap.size + 1 := by rw [← hV1, World.size_alloc]
    have hmm := Whole.made V1 3 #[.int .i64 (m : Int)]
    have g2 := grows_alloc V1 (.cells #[.int .i64 (m : Int)] 3)
    obtain ⟨V2, hV2⟩ : ∃ V2, V1.alloc (.cells #[.int .i64 (m : Int)] 3) = V2 := ⟨_, rfl⟩
    rw [hV2] at hmm g2
    have z2 : V2.heap.size = V1.heap.size + 1 := by rw [← hV2, World.size_alloc]
    have hml := Whole.made V2 38 #[.slice none 0 0]
    have g3 := grows_alloc V2 (.cells #[.slice none 0 0] 38)
    obtain ⟨V3, hV3⟩ : ∃ V3, V2.alloc (.cells #[.slice none 0 0] 38) = V3 := ⟨_, rfl⟩
    rw [hV3] at hml g3
    have z3 : V3.heap.size = V2.heap.size + 1 := by rw [← hV3, World.size_alloc]
    have hmc := Whole.made V3 4 #[.bool false]
    have g4 := grows_alloc V3 (.cells #[.bool false] 4)
    obtain ⟨V4, hV4⟩ : ∃ V4, V3.alloc (.cells #[.bool false] 4) = V4 := ⟨_, rfl⟩
    rw [hV4] at hmc g4
    have z4 : V4.heap.size = V3.heap.size + 1 := by rw [← hV4, World.size_alloc]
    have hmt := Whole.made V4 9 #[kS []]
    have g5 := grows_alloc V4 (.cells #[kS []] 9)
    obtain ⟨V5, hV5⟩ : ∃ V5, V4.alloc (.cells #[kS []] 9) = V5 := ⟨_, rfl⟩
    rw [hV5] at hmt g5
    have z5 : V5.heap.size = V4.heap.size + 1 := by rw [← hV5, World.size_alloc]
    have b1 : Boxed V5 w.heap.size 9 (kS key) := g5.whole (g4.whole (g3.whole (g2.whole hmk)))
    have b2 : Boxed V5 (w.heap.size + 1) 3 (.int .i64 (m : Int)) := by rw [← z1]; exact g5.whole (g4.whole (g3.whole hmm))
    have b3 : Boxed V5 (w.heap.size + 1 + 1) 38 (.slice none 0 0) := by rw [← z1, ← z2]; exact g5.whole (g4.whole hml)
    have b4 : Boxed V5 (w.heap.size + 1 + 1 + 1) 4 (.bool false) := by rw [← z1, ← z2, ← z3]; exact g5.whole hmc
    have b5 : Boxed V5 (w.heap.size + 1 + 1 + 1 + 1) 9 (kS []) := by rw [← z1, ← z2, ← z3, ← z4]; exact hmt
    have gw : Grows w V5 := Grows.trans (Grows.trans (Grows.trans (Grows.trans g1 g2) g3) g4) g5
    have hfb : FromB V5 w.heap.size (w.heap.size + 1 + 1 + 1) (w.heap.size + 1 + 1 + 1 + 1) (w.heap.size + 1 + 1) (w.heap.size + 1) key m := ⟨b1, b2, by omega, by omega⟩
    have HE := Lib.hid (deach_any V5 (hM.grow gw) hK hn hfb (by omega) b4 b5 b3 (fun k hk => by rcases hk with hk | hk; (have := hol k hk; omega); omega))
    have HB := Lib.hid (And.intro hfb (And.intro gw (show w.heap.size + 5 = V5.heap.size from by omega)))
    have HK := Lib.hid hK
    have hworld : ((((w.alloc (.cells #[.string ⟨key.toArray⟩] 9)).alloc (.cells #[.int .i64 (m : Int)] 3)).alloc (.cells #[.slice none 0 0] 38)).alloc (.cells #[.bool false] 4)).alloc (.cells #[.string ⟨#[]⟩] 9) = V5 := by
      rw [← hV5, ← hV4, ← hV3, ← hV2, ← hV1]
      rfl
    have HW := Lib.hid hworld
    have HP := Lib.hid hpos
    have HLN := Lib.hid hn
    unfold tellV at HE
    clear hM hK hkeys hd hol hmk g1 hV1 z1 hmm g2 hV2 z2 hml g3 hV3 z3 hmc g4 hV4 z4 hmt g5 hV5 z5 b1 b2 b3 b4 b5 gw hfb hworld hn
    go_enter Try.func18, Try.ntmps18
    go_wp2_with (fail)
    rw [HW.out]
    refine HE.out.mono ?_
    rintro e w6 ⟨rfl, W0, hg0, hj⟩
    obtain ⟨l, cut, last, A, n, c, ⟨hb1, hb2, hb3⟩, ho, hF, hs⟩ := hj
    have hfb := HB.out.1
    have hm6 : Boxed w6 (w.heap.size + 1) 3 (.int .i64 (m : Int)) := (hs.same _ (by have := hg0.size; have := HB.out.2.2; omega) (by omega)).trans (hg0.whole hfb.many)
    have x0 := hb3.cell
    have x1 := hm6.cell
    have hlen := OwnS.len ho
    have hle := hF.len
    have hperm := HK.out.perm
    have hnl : n ≤ 1000000000 := by
      rw [List.length_map, hperm.length_eq] at hle
      have := HLN.out
      omega
    have HFI := Lib.hid (kfirst_any m w6 ho hnl (by omega))
    have H6 := Lib.hid (And.intro hF (And.intro hs (And.intro hg0 ho)))
    clear hb1 hb2 hb3 ho hF hs hfb hm6 hlen hle hperm hnl hg0
    go_wp2_with (fail)
    refine HFI.out.mono ?_
    rintro e w7 ⟨rfl, ho7, hs7⟩
    have H7 := Lib.hid (And.intro ho7 hs7)
    clear ho7 hs7 x0 x1
    go_wp2_with (fail)
    go_ret
    obtain ⟨hF, hs, hg0, ho⟩ := H6.out
    refine ⟨A, _, c, rfl, ?_, ?_⟩
    · rw [← hF.end_ HK.out.inc (HK.out.perm.map _)]
      exact owned_from H7.out.1 (by have := hg0.size; have := HB.out.2.2; omega)
    · have a1 : Spares (fun k => w.heap.size ≤ k) w w7 := (((Spares.grows (own := fun k => w.heap.size ≤ k) (Grows.trans HB.out.2.1 hg0)).then hs fun q hq e => by omega).then H7.out.2 fun q hq e => by have := (owned_lt3 ho e).1; have := hg0.size; have := HB.out.2.2; omega)
      exact a1.below (Nat.le_refl _) fun k hk e => by omega
set_option maxHeartbeats 1000000 in
theorem klist_any {d : Nat} {own : Nat → Prop} {L : List Pl} (w : World) (h : DirIn w d own L) (hn : L.length < 400000) :
    Calls Try.prog 24 #[.pointer (some ⟨d, 0, none⟩)] w fun e w' => ∃ A n c, e = .returned (.slice A n c) ∧ OwnS w' w.heap.size A n c (L.map (·.key)) ∧ Grows w w' := by
  have HM := Lib.hid (kmany_any w h hn)
  have hf := kfrom_any [] (L.length : Int) (by omega) w h hn
  rw [Int.toNat_natCast, fromP_all (Nat.le_refl _), wantK_nil] at hf
  have HF := Lib.hid hf
  clear hf h
  go_enter Try.func24, Try.ntmps24
  go_wp2_with (fail)
  refine HM.out.mono ?_
  rintro e w1 ⟨rfl, rfl⟩
  go_wp2_with (fail)
  refine HF.out.mono ?_
  rintro e w2 ⟨A, n, c, rfl, ho, hg⟩
  have H2 := Lib.hid (And.intro ho hg)
  clear ho hg
  go_wp2_with (fail)
  go_ret
  exact ⟨A, n, c, rfl, H2.out.1, H2.out.2⟩
end Go.Proofs.Ytadgbobemmfjoaa
