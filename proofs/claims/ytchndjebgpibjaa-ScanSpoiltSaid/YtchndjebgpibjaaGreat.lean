/-
  The walks of souterrainlaw03's great and put.
-/
import Derived.Test.YtchndjebgpibjaaRefPut
import Derived.Test.YtchndjebgpibjaaRowPlain
import Derived.Test.YtchndjebgpibjaaItemRow
import Derived.LoopTactic
import Derived.OwnWalk
import Derived.IntWalk
namespace Go.Proofs.Ytchndjebgpibjaa
open Go.RowKit

/-- What great reckons, up to a place. -/
def weigh (ls : List (List UInt8)) : Nat := (ls.map fun b => min b.length 20000).sum
theorem weigh_next (ls : List (List UInt8)) (k : Nat) (h : k < ls.length) : weigh (ls.take (k + 1)) = weigh (ls.take k) + min (ls.getD k []).length 20000 := by
  unfold weigh
  rw [List.take_succ_eq_append_getElem h, List.map_append, List.sum_append]
  simp [h]
theorem weigh_small : ∀ (ls : List (List UInt8)), weigh ls < 20000 → (ls.map List.length).sum = weigh ls
  | [], _ => rfl
  | b :: ls, h => by
    have hw : weigh (b :: ls) = min b.length 20000 + weigh ls := by simp [weigh]
    rw [hw] at h ⊢
    rw [List.map_cons, List.sum_cons, weigh_small ls (by omega)]
    omega
/-- Not great. -/
def Small (ls : List (List UInt8)) : Prop := ls.length + (ls.map List.length).sum < 20000

def GreatPost (ls : List (List UInt8)) (w : World) (e : Ending) (w' : World) : Prop := ∃ g : Bool, e = .returned (.bool g) ∧ (g = false → Small ls) ∧ w = w'
theorem le_sum : ∀ (l : List Nat) (a : Nat), a ∈ l → a ≤ l.sum
  | [], _, h => by cases h
  | x :: l, a, h => by
    rw [List.sum_cons]
    rcases List.mem_cons.1 h with rfl | h
    · omega
    · have := le_sum l a h; omega

set_option maxRecDepth 100000 in
set_option maxHeartbeats 4000000 in
theorem great_any (A : Option Addr) (n c : Nat) (ls : List (List UInt8)) (w : World) (hs : Lists w A n c ls) (hn : n ≤ 140737488351232) :
    Calls Try.prog 15 #[.slice A n c] w (GreatPost ls w) := by
  have hl := hs.len
  have HS := Lib.hid hs
  clear hs
  go_enter Try.func15, Try.ntmps15
  go_wp2_with (fail)
  go_loop [3, 4] (fun t i => ∃ k s : Nat, k ≤ n ∧ i = .int .i64 (k : Nat) ∧ t = .int .i64 (s : Nat) ∧ Hid (s = n + weigh (ls.take k)) ∧ s ≤ n + 40000) (fun _ i => n - (intOf i).toNat)
  case atStart => exact ⟨0, n, by omega, rfl, rfl, Lib.hid (by simp [weigh]), by omega⟩
  case round =>
    obtain ⟨k, s, hk, rfl, rfl, HE, hs2⟩ := hrel
    by_cases hlt : k < n
    · by_cases hs3 : s < 20000
      · obtain ⟨ad, B, m, d, rfl, hb, hcell, hsl⟩ := HS.out.get hlt
        have hw := weigh_next ls k (by omega)
        have hsll := hsl.len
        have hcap := hsl.cap
        generalize ls.getD k [] = b at *
        have HW := Lib.hid hw
        have k0 : (0 : Int) ≤ (k : Int) := by omega
        have k1 : (k : Int) < (n : Int) := by omega
        have HSL := Lib.hid hsll
        clear hw hsl hsll
        rcases Nat.lt_trichotomy m 20000 with h | h | h
        · go_wp2_with (fail)
          all_goals
            go_round
            case rel => exact ⟨k + 1, s + m, by omega, by go_num, by go_num, Lib.hid (by rw [HE.out, HW.out, HSL.out]; omega), by omega⟩
            case measure => simp [intOf]; omega
        · have HM := Lib.hid h
          clear h
          have h1 : (m : Int) ≤ 20000 := by have := HM.out; omega
          have h2 : (20000 : Int) ≤ (m : Int) := by have := HM.out; omega
          go_wp2_with (fail)
          all_goals
            go_round
            case rel => exact ⟨k + 1, s + m, by omega, by go_num, by go_num, Lib.hid (by rw [HE.out, HW.out, HSL.out, HM.out]; omega), by omega⟩
            case measure => simp [intOf]; omega
        · go_wp2_with (fail)
          all_goals
            go_round
            case rel => exact ⟨k + 1, s + 20000, by omega, by go_num, by go_num, Lib.hid (by rw [HE.out, HW.out, HSL.out]; omega), by omega⟩
            case measure => simp [intOf]; omega
      · have hs4 : (20000 : Int) ≤ (s : Int) := by omega
        go_wp2_with (fail)
        go_ret
        exact ⟨true, ret_bool rfl, (fun h => by cases h), rfl⟩
    · obtain rfl : k = n := by omega
      go_wp2_with (fail)
      go_ret
      refine ⟨decide (20000 ≤ s), ret_bool (decide_eq_decide.2 (by omega)), (fun h => ?_), rfl⟩
      have h : ¬ 20000 ≤ s := of_decide_eq_false h
      have he := HE.out
      rw [List.take_of_length_le (by omega)] at he
      unfold Small
      rw [weigh_small ls (by omega)]
      omega

theorem putL_next (ls : List (List UInt8)) (k : Nat) (h : k < ls.length) : putL (ls.take (k + 1)) = putL (ls.take k) ++ putB (ls.getD k []) := by
  rw [List.take_succ_eq_append_getElem h, putL_append]
  simp [putL, h]
theorem itsL_next (ls : List (List UInt8)) (k : Nat) (h : k < ls.length) : itsL (ls.take (k + 1)) 0 = itsL (ls.take k) 0 ++ (if Good (ls.getD k []) then [((putL (ls.take k)).length, (ls.getD k []).length + 8, ls.getD k [])] else []) := by
  rw [List.take_succ_eq_append_getElem h, itsL_append, Nat.zero_add]
  congr 1
  simp [itsL, h]
theorem small_put {ls : List (List UInt8)} (h : Small ls) : (putL ls).length ≤ 180000 := by
  have := putL_size ls
  unfold Small at h
  omega
theorem putL_take_le (ls : List (List UInt8)) (k : Nat) : (putL (ls.take k)).length ≤ (putL ls).length := by
  conv => rhs; rw [← List.take_append_drop k ls, putL_append, List.length_append]
  omega

/-- Where bodies lie that came in. -/
def Lies (w : World) (hh : List Hd) (ts : List It) : Prop := hh.length = ts.length ∧ ∀ (i : Nat) (h : Hd) (t : It), hh[i]? = some h → ts[i]? = some t → Sl w h.1 h.2.1 h.2.2 t.2.2
theorem Lies.grow {w w' : World} {hh : List Hd} {ts : List It} (h : Lies w hh ts) (hg : Grows w w') : Lies w' hh ts := ⟨h.1, fun i x t hx ht => (h.2 i x t hx ht).grow hg⟩
theorem Lies.snoc {w : World} {hh : List Hd} {ts : List It} (hb : Lies w hh ts) {h : Hd} {t : It} (ho : Sl w h.1 h.2.1 h.2.2 t.2.2) : Lies w (hh ++ [h]) (ts ++ [t]) := by
  refine ⟨by rw [List.length_append, List.length_append, hb.1]; rfl, fun i x y hx hy => ?_⟩
  by_cases hi : i < hh.length
  · rw [List.getElem?_append_left hi] at hx
    rw [List.getElem?_append_left (by rw [← hb.1]; exact hi)] at hy
    exact hb.2 i x y hx hy
  · rw [List.getElem?_append_right (by omega)] at hx
    rw [List.getElem?_append_right (by rw [← hb.1]; omega)] at hy
    have hi0 : i - hh.length = 0 := by
      rcases Nat.eq_zero_or_pos (i - hh.length) with h0 | h0
      · exact h0
      · rw [List.getElem?_eq_none (by simp; omega)] at hx; cases hx
    rw [← hb.1] at hy
    rw [hi0] at hx hy
    simp only [List.getElem?_cons_zero, Option.some.injEq] at hx hy
    subst hx hy
    exact ho

theorem its_len : ∀ (l : List (List UInt8)) (a : Nat), (itsL l a).length ≤ l.length
  | [], _ => Nat.le_refl _
  | b :: l, a => by
    rw [itsL]
    by_cases h : Good b
    · rw [if_pos h, List.length_cons, List.length_cons]; have := its_len l (a + (b.length + 8)); omega
    · rw [if_neg h, List.length_cons]; have := its_len l a; omega

set_option maxRecDepth 100000 in
set_option maxHeartbeats 4000000 in
theorem put_rows (A : Option Addr) (n c : Nat) (ls : List (List UInt8)) (w : World) (hs : Lists w A n c ls) (hsm : Small ls) :
    Calls Try.prog 16 #[.slice A n c] w fun e w' => ∃ OA oc IA ic hh, e = .returned (.tuple #[.slice OA (putL ls).length oc, .slice IA (itsL ls 0).length ic]) ∧ w'.ownsRow w.heap.size 5 1 (.slice OA (putL ls).length oc) (putL ls).length ((putL ls).map byteV) ∧
      w'.ownsRow w.heap.size 29 3 (.slice IA (itsL ls 0).length ic) (itsL ls 0).length (itCells (itsL ls 0) hh) ∧ Lies w hh (itsL ls 0) ∧ Below w.heap.size w w' := by
  have hl := hs.len
  have hn : n < 20000 := by unfold Small at hsm; omega
  have hbound := small_put hsm
  have HS := Lib.hid hs
  have HSM := Lib.hid hsm
  clear hs hsm
  go_enter Try.func16, Try.ntmps16
  go_wp2_with (fail)
  go_loopw [4, 5, 6] (fun o t i wr => ∃ (OA IA : Option Addr) (oc ic k L M : Nat) (hh : List Hd), k ≤ n ∧ i = .int .i64 (k : Nat) ∧ o = .slice OA L oc ∧ t = .slice IA M ic ∧ L ≤ 180000 ∧ M ≤ 20000 ∧ Hid (L = (putL (ls.take k)).length ∧ M = (itsL (ls.take k) 0).length) ∧
      Hid (wr.ownsRow w.heap.size 5 1 (.slice OA L oc) L ((putL (ls.take k)).map byteV)) ∧ Hid (wr.ownsRow w.heap.size 29 3 (.slice IA M ic) M (itCells (itsL (ls.take k) 0) hh)) ∧ Hid (Lies w hh (itsL (ls.take k) 0)) ∧ Hid (Grows w wr)) (fun _ _ i _ => n - (intOf i).toNat)
  case atStart => exact ⟨none, none, 0, 0, 0, 0, 0, [], by omega, rfl, rfl, rfl, by omega, by omega, Lib.hid ⟨rfl, rfl⟩, Lib.hid (World.ownsRow_nil _ _ _ _), Lib.hid (World.ownsRow_nil _ _ _ _), Lib.hid ⟨rfl, fun i h t hh => by simp at hh⟩, Lib.hid (Grows.refl _)⟩
  case round =>
    obtain ⟨OA, IA, oc, ic, k, L, M, hh, hk, rfl, rfl, rfl, hL, hM, HE, HO, HI, HLY, HG⟩ := hrel
    by_cases hlt : k < n
    · obtain ⟨ad, B, m, d, rfl, hb, hcell, hsl⟩ := (HS.out.grow HG.out).get hlt
      obtain ⟨ad', B', m', d', had, _, hcell', hsl'⟩ := HS.out.get hlt
      have hnp := putL_next ls k (by omega)
      have hni := itsL_next ls k (by omega)
      have hle := putL_take_le ls (k + 1)
      have hm : m ≤ 140737488351232 := by
        have h1 := hsl.len
        have h2 := HSM.out
        unfold Small at h2
        have h3 : (ls.getD k []).length ≤ (ls.map List.length).sum := by
          rw [List.getD_eq_getElem?_getD, List.getElem?_eq_getElem (show k < ls.length by omega)]
          exact le_sum _ _ (List.mem_map.2 ⟨_, List.getElem_mem _, rfl⟩)
        omega
      have hput := refPut_own B m d (ls.getD k []) wr hsl (by unfold maxLen; omega)
      have hbl := hsl.len
      have hup := fun (w' : World) (hg : Grows wr w') => hg.cell (World.block_lt_of_cell? wr _ hcell)
      rw [hnp, List.length_append] at hle
      have hrow : Sl w B m d (ls.getD k []) := by
        injection had with had
        subst had
        have h1 := (HG.out.cell (World.block_lt_of_cell? w _ hcell')).trans hcell'
        rw [hcell] at h1
        injection h1 with h1
        injection h1 with h1 h2 h3
        subst h1 h2 h3
        exact hsl'
      generalize ls.getD k [] = b at *
      have HNP := Lib.hid (And.intro hnp hni)
      have HP := Lib.hid hput
      have HR := Lib.hid hrow
      have HBL := Lib.hid hbl
      have HLE := Lib.hid hle
      have k0 : (0 : Int) ≤ (k : Int) := by omega
      have k1 : (k : Int) < (n : Int) := by omega
      clear hsl had hcell' hsl' hnp hni hput hrow hbl hle
      go_wp2_with (fail)
      refine HP.out.mono ?_
      rintro e w2 ⟨FA, fm, fc, rfl, hf, hb2⟩
      have g2 : Grows wr w2 := hb2
      have hfl : (putB b).length = fm := by have := hf.1; simp at this; omega
      have hcell2 := (hup w2 g2).trans hcell
      have HK3F : Hid (∀ w3 : World, (∀ (b' size : Nat) (v : Value) (m' : Nat) (ys : List Value), (w2.alloc (.cells #[.int .i64 (L : Nat), .int .i64 (fm : Nat), .slice B m d] 29)).ownsRow b' 5 size v m' ys → w3.ownsRow b' 5 size v m' ys) → Sl w3 FA fm fc (putB b)) :=
        Lib.hid fun w3 h => Sl.owned (h _ _ _ _ _ (owned_grow hf (grows_alloc _ _)))
      have HG2 := Lib.hid g2
      clear hf hb2 g2 hup hcell
      by_cases hg : Good b
      · have hfm : fm = b.length + 8 := by rw [← hfl, putB_good hg, frameB_length]
        have hfm0 : 0 < fm := by omega
        have hLf : L + fm ≤ 180000 := by have := HLE.out; have := HE.out.1; omega
        have HFM := Lib.hid (And.intro hfl hfm)
        have hw3 := Whole.made w2 29 #[.int .i64 (L : Nat), .int .i64 (fm : Nat), .slice B m d]
        have HW3 := Lib.hid hw3
        have hHM : M ≤ 1000000 := by omega
        have hcnt : (itsL (ls.take k) 0).length = hh.length := HLY.out.1.symm
        have HCN := Lib.hid hcnt
        clear hfl hfm hw3 hcnt
        go_wp2_with (first
          | (at_builtin
             refine list_append_item rfl (.tmp 22) (.tmp 32) rfl (base := w.heap.size) (LA := IA) (n := M) (lc := ic) rfl (owned_grow (owned_grow HI.out HG2.out) (grows_alloc _ _)) HCN.out (L, fm, b) (B, m, d) rfl HW3.out hHM (by have := HG.out.size; have := HG2.out.size; simp; omega) ?_
             intro A3 c3 w3 hown3 hb3 hk3
             have HI3 := Lib.hid hown3
             have HB3 := Lib.hid (show Grows w w3 from Below.trans (Grows.trans (Grows.trans HG.out HG2.out) (grows_alloc _ _)) hb3)
             have HO3 := Lib.hid (hk3 _ _ _ _ _ (owned_grow (owned_grow HO.out HG2.out) (grows_alloc _ _)))
             have HF3 := Lib.hid (HK3F.out w3 hk3)
             clear hown3 hb3 hk3)
          | (at_builtin
             refine list_append_sl2 rfl (.tmp 34) (.tmp 35) rfl rfl HO3.out (A := FA) (m := fm) (c := fc) rfl HF3.out (L + fm) rfl _ rfl (by omega) HB3.out.size ?_
             intro A4 c4 w4 hown4 hb4 hk4
             have HO4 := Lib.hid hown4
             have HB4 := Lib.hid hb4
             have HI4 := Lib.hid (hk4 _ _ _ _ _ HI3.out)
             clear hown4 hb4 hk4))
        go_roundw
        case rel =>
          refine ⟨A4, A3, c4, c3, k + 1, L + fm, M + 1, hh ++ [(B, m, d)], by omega, by go_num, rfl, rfl, hLf, ?_, Lib.hid ⟨?_, ?_⟩, Lib.hid ?_, Lib.hid ?_, Lib.hid ?_, Lib.hid (Below.trans HB3.out HB4.out)⟩
          · have h1 := itsL_count ls 0
            have h2 := HE.out.2
            have h3 : (itsL (ls.take k) 0).length ≤ (ls.take k).length := its_len _ _
            rw [List.length_take] at h3
            omega
          · rw [HNP.out.1, List.length_append, HE.out.1, HFM.out.1]
          · rw [HNP.out.2, if_pos hg, List.length_append, HE.out.2]; rfl
          · rw [HNP.out.1]; exact HO4.out
          · rw [HNP.out.2, if_pos hg, ← HE.out.1, ← HFM.out.2]
            exact HI4.out
          · rw [HNP.out.2, if_pos hg, ← HE.out.1, ← HFM.out.2]
            exact HLY.out.snoc HR.out
        case measure => simp [intOf]; omega
      · have hfm : fm = 0 := by rw [← hfl, putB_ill hg]; rfl
        subst hfm
        clear hfl
        go_wp2_with (fail)
        go_roundw
        case rel =>
          refine ⟨OA, IA, oc, ic, k + 1, L, M, hh, by omega, by go_num, rfl, rfl, hL, hM, Lib.hid ?_, Lib.hid ?_, Lib.hid ?_, Lib.hid ?_, Lib.hid (Grows.trans HG.out HG2.out)⟩
          · rw [HNP.out.1, HNP.out.2, putB_ill hg, if_neg hg, List.append_nil, List.append_nil]; exact HE.out
          · rw [HNP.out.1, putB_ill hg, List.append_nil]; exact owned_grow HO.out HG2.out
          · rw [HNP.out.2, if_neg hg, List.append_nil]; exact owned_grow HI.out HG2.out
          · rw [HNP.out.2, if_neg hg, List.append_nil]; exact HLY.out
        case measure => simp [intOf]; omega
    · obtain rfl : k = n := by omega
      have hE := HE.out
      have hO := HO.out
      have hI := HI.out
      have hY := HLY.out
      rw [List.take_of_length_le (by omega)] at hE hO hI hY
      obtain ⟨rfl, rfl⟩ := hE
      have HQ := Lib.hid (And.intro hO (And.intro hI hY))
      clear hO hI hY
      go_wp2_with (fail)
      go_ret2
      exact ⟨OA, oc, IA, ic, hh, rfl, HQ.out.1, HQ.out.2.1, HQ.out.2.2, HG.out⟩
end Go.Proofs.Ytchndjebgpibjaa
