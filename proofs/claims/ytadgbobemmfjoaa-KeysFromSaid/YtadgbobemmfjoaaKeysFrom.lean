/-
  Statement KeysFrom: keys from one on, so many, and from behind the last of these on, are all that are not below it. Every list of calls, every key and every number, no condition.
-/
import Derived.Test.YtadgbobemmfjoaaKsGreat
import Derived.Test.YtadgbobemmfjoaaText
import Derived.ProofKit
import Derived.ChangeOld
namespace Go.Proofs.Ytadgbobemmfjoaa
open Go.ChangeShapes Go.WideShapes Go.ChangeAt Go.RowKit
set_option linter.unusedSimpArgs false
set_option linter.unusedVariables false

theorem klen_del (key : List UInt8) (L : List Pl) {i : Nat} (h : L.length ≤ i) : (delL key L).length ≤ i + 1 := by have := delL_len key L; omega
theorem klen_put (p : Pl) (L : List Pl) {i : Nat} (h : L.length ≤ i) : (kputL p L).length ≤ i + 1 := by have := putL_len p L; omega

theorem kcat (s : List UInt8) : ((⟨s.toArray⟩ : ByteArray) ++ ⟨#[0]⟩) = ⟨(s ++ [0]).toArray⟩ := by
  apply ByteArray.ext
  simp
theorem kadd (g j : Nat) : (⟨g, 0, none⟩ : Addr).add j = ⟨g, j, none⟩ := by unfold Addr.add; split <;> simp_all
theorem behind_zero : ∀ (k s : List UInt8), bytesBefore k (s ++ [0]) = !bytesBefore s k
  | [], [] => rfl
  | [], _ :: _ => rfl
  | b :: r, [] => by
    have h : ¬ b < 0 := fun h => by have : b.toNat < (0 : UInt8).toNat := h; simp at this
    cases r <;> simp [bytesBefore, h]
  | b :: r, a :: t => by
    have ih := behind_zero r t
    simp only [List.cons_append, bytesBefore, ih]
    by_cases h1 : b < a
    · have h2 : ¬ a < b := fun h => by have x : b.toNat < a.toNat := h1; have y : a.toNat < b.toNat := h; omega
      have h3 : ¬ a = b := fun e => by subst e; exact h2 h1
      simp [h1, h2, h3]
    · by_cases h2 : a < b
      · have h3 : ¬ b = a := fun e => by subst e; exact h1 h2
        simp [h1, h2, h3]
      · have h3 : b = a := UInt8.toNat_inj.1 (by have x : ¬ b.toNat < a.toNat := h1; have y : ¬ a.toNat < b.toNat := h2; omega)
        subst h3
        simp [h1]
/-- Rising keys. -/
def UpS (l : Ks) : Prop := l.Pairwise fun a b => bytesBefore a b = true
theorem UpS.want {l : Ks} (h : UpS l) (k : List UInt8) : UpS (wantK k l) := List.Pairwise.filter _ h
/-- What stands behind the first ones. -/
theorem want_next {l : Ks} (h : UpS l) {f s : List UInt8} {m : Nat} (hm : 0 < m) (hs : (wantK f l)[m - 1]? = some s) : wantK (s ++ [0]) l = (wantK f l).drop m := by
  have hW := h.want f
  have hsm : s ∈ wantK f l := List.mem_of_getElem? hs
  have hsf : bytesBefore s f = false := by simpa [wantK] using (List.mem_filter.1 hsm).2
  have e1 : wantK (s ++ [0]) l = (wantK f l).filter fun k => bytesBefore s k := by
    unfold wantK
    rw [List.filter_filter]
    refine List.filter_congr fun k _ => ?_
    rw [behind_zero, Bool.not_not]
    rcases hb : bytesBefore s k with _ | _
    · simp
    · have : bytesBefore k f = false := by
        rcases hf : bytesBefore k f with _ | _
        · rfl
        · have := kbef_trans hb hf; rw [hsf] at this; cases this
      simp [this]
  rw [e1]
  conv => lhs; rw [← List.take_append_drop m (wantK f l), List.filter_append]
  have hl := (List.getElem?_eq_some_iff.1 hs).1
  have es := (List.getElem?_eq_some_iff.1 hs).2
  have p := List.pairwise_iff_getElem.1 hW
  have h1 : ((wantK f l).take m).filter (fun k => bytesBefore s k) = [] := by
    refine List.filter_eq_nil_iff.2 fun k hk => ?_
    obtain ⟨j, hj⟩ := List.mem_iff_getElem?.1 hk
    rw [List.getElem?_take] at hj
    split at hj
    · rename_i hjm
      obtain ⟨hjl, ek⟩ := List.getElem?_eq_some_iff.1 hj
      by_cases e : j = m - 1
      · subst e
        rw [← ek, es, kbef_irrefl]
        decide
      · have := p j (m - 1) hjl hl (by omega)
        rw [ek, es] at this
        rw [kbef_asymm this]
        decide
    · cases hj
  have h2 : ((wantK f l).drop m).filter (fun k => bytesBefore s k) = (wantK f l).drop m := by
    refine List.filter_eq_self.2 fun k hk => ?_
    obtain ⟨j, hj⟩ := List.mem_iff_getElem?.1 hk
    rw [List.getElem?_drop] at hj
    obtain ⟨hjl, ek⟩ := List.getElem?_eq_some_iff.1 hj
    have := p (m - 1) (m + j) hl hjl (by omega)
    rw [ek, es] at this
    exact this
  rw [h1, h2, List.nil_append]
theorem app_keys {w : World} {ty B Bx : Nat} {A Ax : Option Addr} {n c nx cx : Nat} {l X : Ks} (ho : OwnS w B A n c l) (hx : OwnS w Bx Ax nx cx X) (hn : n + nx ≤ 1000000) (hB : B ≤ w.heap.size) :
    ∃ A' c' w', (Builtin.append_ #[38, 38] ty #[.slice A n c, .slice Ax nx cx]).run Try.prog w = .ok (.slice A' (n + nx) c') w' ∧ OwnS w' B A' (n + nx) c' (l ++ X) ∧ w.grownBy w' (Value.slice A n c).ownBlock := by
  obtain ⟨i0, hi0, hz0, hz1, hz2⟩ := info_of infoS
  have hlen := OwnS.len hx
  rcases hx.2 with ⟨e1, e2⟩ | ⟨g, cap, cur, e1, hb, hg, hnc, hcm, hcs, ht⟩
  · injection e1 with q1 q2 q3
    subst q1 q3
    subst e2
    have : X = [] := List.eq_nil_of_length_eq_zero hlen
    subst this
    exact ⟨A, c, w, run_append_owned_none (P := Try.prog) (w := w) B 38 ty 9 i0 1 Try.underlying38 hi0 (.slice A n c) n (l.map kS) ho, by rw [List.append_nil, Nat.add_zero]; exact ho, World.grownBy.refl w _⟩
  · injection e1 with q1 q2 q3
    subst q1 q3
    have hcell : ∀ (j : Nat) (u : Value), (X.map kS)[j]? = some u → w.cell? ((⟨g, 0, none⟩ : Addr).add j) = some u := hx.cells (g := g) rfl
    obtain ⟨v', w', hr, h2, h3, _, _⟩ := run_append_own_at (P := Try.prog) (w := w) B 38 ty 9 i0 (.string ⟨#[]⟩) 1 16 Try.underlying38 hi0 hz0 hz1 hz2 rfl (by omega) (.slice A n c) n (l.map kS) ho ⟨g, 0, none⟩ nx cx (X.map kS) (by rw [List.length_map, hlen]; omega) hcell (kS_one X) (by unfold maxLen; omega) (by omega) hB
    obtain ⟨A', c', rfl⟩ := slice_ownP h2
    rw [← List.map_append] at h2
    exact ⟨A', c', w', hr, h2, h3⟩
theorem grown_grows {w5 w6 w7 : World} {A : Option Addr} {n c : Nat} {l : Ks} (hg : Grows w5 w6) (ho : OwnS w6 w5.heap.size A n c l) (h : w6.grownBy w7 (Value.slice A n c).ownBlock) : Grows w5 w7 :=
  Below.grown (Below.mono hg (Nat.le_refl _)) h hg.size fun k hk => (owned_lt3 ho hk).1
structure Fr (W Lk G : Ks) (f : List UInt8) (st k : Nat) : Prop where
  all : G ++ wantK f Lk = W
  len : k ≤ G.length
theorem Fr.le {W Lk G : Ks} {f : List UInt8} {st k : Nat} (h : Fr W Lk G f st k) : G.length ≤ W.length := by rw [← h.all, List.length_append]; omega
set_option maxRecDepth 100000 in
set_option maxHeartbeats 8000000 in
theorem keysFrom_law (w : World) (A : Option Addr) (n c : Nat) (os : List O13) (hx : Ops13 w A n c os) (key : List UInt8) (hkey : key.length ≤ 9223372036854775807) (mm : Int) (hmm : 0 ≤ mm ∧ mm < 256) :
    Calls Try.prog 6 #[.slice A n c, .string ⟨key.toArray⟩, .int .u8 mm] w fun e w' => e = .returned (.bool true) ∧ Below w.heap.size w w' := by
  obtain ⟨mv, rfl⟩ : ∃ m : Nat, mm = (m : Int) := ⟨mm.toNat, by omega⟩
  have HMV := Lib.hid (show mv < 256 from by omega)
  have HMW := Lib.hid (wrapK (x := (mv : Int)) (by omega) (by omega))
  clear hmm
  have HO := Lib.hid hx
  clear hx
  go_enter Try.func6, Try.ntmps6
  go_wp2_with (fail)
  refine (head13_any w).mono ?_
  rintro e w1 ⟨rfl, hg1⟩
  have HG1 := Lib.hid hg1
  clear hg1
  go_wp2_with (fail)
  refine (new_in (B := w.heap.size) (out := fun _ => False) HG1.out HG1.out.size (fun k hk => hk.elim)).mono ?_
  rintro e w2 ⟨d, rfl, hk2, hg2⟩
  have H2 := Lib.hid hk2
  clear hk2 hg2
  have HGT := Lib.hid (great13_any A n c os w2 (HO.out.grow H2.out.low))
  go_wp2_with (fail)
  refine HGT.out.mono ?_
  rintro e w3 (⟨rfl, rfl⟩ | ⟨rfl, hn300, hsh, rfl⟩)
  · go_wp2_with (fail)
    go_ret
    exact ⟨rfl, H2.out.low⟩
  by_cases hbig : 900 < key.length
  · have HLN := Lib.hid hbig
    clear hsh
    go_wp2_with (fail)
    go_ret
    exact ⟨rfl, H2.out.low⟩
  have HKL := Lib.hid (show key.length ≤ 900 from by omega)
  have HSH := Lib.hid hsh
  clear hsh
  go_wp2_with (fail)
  go_loopw [9] (fun vi wr => ∃ (i : Nat) (L : List Pl), i ≤ n ∧ vi = .int .i64 (i : Int) ∧ Hid (KsIn w.heap.size w wr d (fun _ => False) L ∧ L.length ≤ i)) (fun vi _ => n - (intOf vi).toNat)
  case atStart => exact ⟨0, [], Nat.zero_le _, rfl, Lib.hid ⟨H2.out, Nat.le_refl _⟩⟩
  case round =>
    obtain ⟨i, L, hi, rfl, HJ⟩ := hrel
    by_cases hlt : i < n
    · obtain ⟨ad, ⟨qw, ⟨q0, q1, q2, q3, q4⟩, qn⟩, rfl, ho, hbl, hok, hcs⟩ := Ops13.at (HO.out.grow HJ.out.1.low) hlt
      obtain ⟨c0, c1, c2, c3, c4, c5, c6⟩ := hcs wr (Grows.refl _)
      dsimp only at c0 c1 c2 c3 c4 c5 c6
      have k0 : (0 : Int) ≤ (i : Int) := by omega
      have k1 : (i : Int) < (n : Int) := by omega
      have HQK := Lib.hid (show q2.length < 9000 from HSH.out i _ hlt ho)
      clear ho hbl hok hcs
      have HCA := Lib.hid (show Calls Try.prog 20 #[.pointer (some ⟨d, 0, none⟩), .agg #[.int .i64 q0, .int .i64 q1, .string ⟨q2.toArray⟩, .int .i64 q3, .int .i64 q4]] wr fun e w' => e = .returned (plTo (getL q2 L)) ∧ KsIn w.heap.size w w' d (fun _ => False) (kputL ⟨q0, q1, q2, q3, q4⟩ L) ∧ KStays w.heap.size (fun _ => False) wr w' from put_at ⟨q0, q1, q2, q3, q4⟩ HJ.out.1 (by show q2.length ≤ _; have := HQK.out; omega) (by have := HJ.out.2; omega) rfl rfl)
      go_wp2_with (fail)
      refine HCA.out.mono ?_
      rintro e w4 ⟨rfl, hk4, _⟩
      have H4 := Lib.hid hk4
      clear hk4 HCA c0 c1 c2 c3 c4 c5 c6
      go_wp2_with (fail)
      go_roundw
      case rel => exact ⟨i + 1, kputL ⟨q0, q1, q2, q3, q4⟩ L, by omega, by first | rfl | go_num, Lib.hid ⟨H4.out, klen_put ⟨q0, q1, q2, q3, q4⟩ L HJ.out.2⟩⟩
      case measure => simp [intOf]; omega
    · obtain ⟨w5, hw5⟩ : ∃ w5, w5 = wr := ⟨_, rfl⟩
      subst hw5
      obtain ⟨M, hM⟩ : ∃ M, L.length = M := ⟨_, rfl⟩
      have hM300 : M ≤ 300 := by have := HJ.out.2; omega
      have HK5 := Lib.hid (And.intro HJ.out.1 (And.intro hM hM300))
      have hup : UpS (L.map (·.key)) := List.pairwise_map.2 HJ.out.1.inc
      have HUP := Lib.hid hup
      have hWl : (wantK key (L.map (·.key))).length ≤ M := by
        have h1 : (wantK key (L.map (·.key))).length ≤ (L.map (·.key)).length := List.length_filter_le _ _
        rw [List.length_map] at h1
        omega
      have HWL := Lib.hid hWl
      obtain ⟨st, hst⟩ : ∃ st, mv + 1 = st := ⟨_, rfl⟩
      have HST := Lib.hid (And.intro hst (show 0 < st ∧ st ≤ 256 from by have := HMV.out; omega))
      have hsi : (1 : Int) + (mv : Int) = (st : Int) := by omega
      have HSW := Lib.hid (wrapK (x := (st : Int)) (by have := HMV.out; omega) (by have := HMV.out; omega))
      have hst256 : st ≤ 256 := HST.out.2.2
      clear hM hup hWl hst
      obtain ⟨wm1, wm2⟩ := HMW.out
      obtain ⟨ws1, ws2⟩ := HSW.out
      go_wp2_with (fail)
      clear wm1 wm2 ws1 ws2
      go_loopw [10, 11, 13] (fun vg vf vk wr => ∃ (k : Nat) (f : List UInt8) (AG : Option Addr) (nG cG : Nat) (G : Ks), k ≤ M + 1 ∧ vk = .int .i64 (k : Int) ∧ vf = .string ⟨f.toArray⟩ ∧ vg = .slice AG nG cG ∧ Hid (Fr (wantK key (L.map (·.key))) (L.map (·.key)) G f st k ∧ OwnS wr w5.heap.size AG nG cG G ∧ Grows w5 wr)) (fun _ _ vk _ => M + 1 - (intOf vk).toNat)
      case atStart => exact ⟨0, key, none, 0, 0, [], Nat.zero_le _, rfl, rfl, rfl, Lib.hid ⟨⟨rfl, Nat.le_refl _⟩, ⟨rfl, .inl ⟨rfl, rfl⟩⟩, Grows.refl _⟩⟩
      case round =>
        obtain ⟨k, f, AG, nG, cG, G, hk, rfl, rfl, rfl, HG⟩ := hrel
        have HMA := Lib.hid (many_at (HK5.out.1.grow HG.out.2.2) (by have := HK5.out.2; omega) HK5.out.2.1)
        by_cases hkM : k ≤ M
        · have hki : (k : Int) ≤ (M : Int) := by omega
          have HFR := Lib.hid (from_at f (st : Int) (HK5.out.1.grow HG.out.2.2) (by have := HST.out.2; omega) (by have := HK5.out.2; omega) rfl)
          have hnG := OwnS.len HG.out.2.1
          have HNG := Lib.hid (show nG ≤ 300 from by have := HG.out.1.le; have := HWL.out; omega)
          clear hnG
          go_wp2_with (fail)
          refine HMA.out.mono ?_
          rintro e w6 ⟨rfl, rfl⟩
          go_wp2_with (fail)
          refine HFR.out.mono ?_
          rintro e w6 ⟨AX, nx, cx, rfl, ho6, hg6⟩
          rw [Int.toNat_natCast] at ho6
          have hnx := OwnS.len ho6
          have hcapx := OwnS.cap ho6
          have hnx2 : nx = min st (wantK f (L.map (·.key))).length := by rw [← hnx]; unfold fromP; rw [List.length_take]
          have hnst : nx ≤ st := by omega
          have hnsti : (nx : Int) ≤ (st : Int) := by omega
          have hnlt : ¬ (st : Int) < (nx : Int) := by omega
          obtain ⟨A7, c7, w7, hrun, ho7, hgb⟩ := app_keys (ty := 38) (owned_grow HG.out.2.1 hg6) ho6 (by have := HNG.out; omega) (by have := HG.out.2.2.size; have := hg6.size; omega)
          obtain ⟨n7, hn7⟩ : ∃ n7, nG + nx = n7 := ⟨_, rfl⟩
          rw [hn7] at hrun ho7
          have HRUN := Lib.hid hrun
          have HX6 := Lib.hid (And.intro ho6 hg6)
          have hg57 := grown_grows (Grows.trans HG.out.2.2 hg6) (owned_grow HG.out.2.1 hg6) hgb
          have HN7 := Lib.hid (show n7 ≤ 1000 from by have := HNG.out; omega)
          by_cases hbr : nx < st
          · have hbri : (nx : Int) < (st : Int) := by omega
            have hGX : G ++ fromP f st L = wantK key (L.map (·.key)) := by
              rw [← HG.out.1.all]
              congr 1
              unfold fromP
              exact List.take_of_length_le (by omega)
            rw [hGX] at ho7
            have HGOT := Lib.hid (And.intro ho7 hg57)
            clear ho6 hg6 hnx hnx2 hrun ho7 hgb hn7 hg57 hGX hi hlt HJ
            have HLI := Lib.hid (list_at (HK5.out.1.grow HGOT.out.2) (by have := HK5.out.2; omega) rfl)
            go_wp2_with (first | (at_builtin; refine list_exec rfl (exec_appK rfl rfl rfl HRUN.out) ?_; simp only [Act.put, List.setIfInBounds_toArray, List.set_cons_zero, List.set_cons_succ]) | fail)
            refine HLI.out.mono ?_
            rintro e w9 ⟨AL, ml, cl, rfl, ho9, hg9⟩
            have hml := OwnS.len ho9
            rw [List.length_map, HK5.out.2.1] at hml
            subst hml
            have hcap9 := OwnS.cap ho9
            have H9 := Lib.hid (And.intro ho9 (And.intro (owned_grow HGOT.out.1 hg9) (And.intro (HK5.out.1.grow (Grows.trans HGOT.out.2 hg9)) (Grows.trans HGOT.out.2 hg9))))
            clear ho9 hg9 HLI
            go_wp2_with (fail)
            go_loopw [15, 17] (fun vw vi wr => ∃ (i : Nat) (AW : Option Addr) (cW nW : Nat), i ≤ M ∧ vi = .int .i64 (i : Int) ∧ vw = .slice AW nW cW ∧ Hid ((wantK key ((L.map (·.key)).take i)).length = nW ∧ OwnS wr w9.heap.size AW nW cW (wantK key ((L.map (·.key)).take i)) ∧ Grows w9 wr)) (fun _ vi _ => M - (intOf vi).toNat)
            case atStart => exact ⟨0, none, 0, 0, Nat.zero_le _, rfl, rfl, Lib.hid ⟨rfl, ⟨rfl, .inl ⟨rfl, rfl⟩⟩, Grows.refl _⟩⟩
            case round =>
              obtain ⟨i, AW, cW, nW, hi3, rfl, rfl, HT⟩ := hrel
              by_cases hlt3 : i < M
              · obtain ⟨x, hxk⟩ : ∃ k', (L.map (·.key))[i]? = some k' := ⟨_, List.getElem?_eq_getElem (by rw [List.length_map]; have := HK5.out.2; omega)⟩
                obtain ⟨ga, rfl⟩ : ∃ ga, AL = some ⟨ga, 0, none⟩ := by
                  rcases H9.out.1.2 with ⟨e, e2⟩ | ⟨g, cap, cur, e, _⟩
                  · omega
                  · injection e with e1 e2 e3; exact ⟨g, e1⟩
                have hst : wantK key ((L.map (·.key)).take (i + 1)) = if bytesBefore x key then wantK key ((L.map (·.key)).take i) else wantK key ((L.map (·.key)).take i) ++ [x] := by
                  rw [List.take_add_one, hxk]
                  exact wantK_snoc key _ x
                have HTL := Lib.hid (show nW ≤ 300 from by
                  have h1 : (wantK key ((L.map (·.key)).take i)).length ≤ ((L.map (·.key)).take i).length := List.length_filter_le _ _
                  rw [List.length_take, List.length_map] at h1
                  have := HT.out.1
                  have := HK5.out.2
                  omega)
                have hcx : ∀ w', Grows w9 w' → w'.cell? ⟨ga, i, none⟩ = some (.string ⟨x.toArray⟩) := fun w' hg => by
                  have h1 := (owned_grow H9.out.1 hg).cells (g := ga) rfl i (kS x) (by rw [List.getElem?_map, hxk]; rfl)
                  rw [kadd] at h1
                  exact h1
                have cx := hcx wr HT.out.2.2
                have cx2 := hcx (wr.alloc (.cells #[.string ⟨x.toArray⟩] 9)) (Grows.trans HT.out.2.2 (grows_alloc _ _))
                have hls := kless x key
                have k0 : (0 : Int) ≤ (i : Int) := by omega
                have k1 : (i : Int) < (M : Int) := by omega
                clear hxk hcx
                rcases hxb : bytesBefore x key with _ | _
                · rw [hxb] at hls
                  have HXB := Lib.hid hxb
                  clear hxb
                  have hg1 := grows_alloc wr (.cells #[.string ⟨x.toArray⟩] 9)
                  have hm1 := Whole.made wr 9 #[.string ⟨x.toArray⟩]
                  obtain ⟨W1, hW1⟩ : ∃ W1, wr.alloc (.cells #[.string ⟨x.toArray⟩] 9) = W1 := ⟨_, rfl⟩
                  rw [hW1] at hg1 hm1
                  obtain ⟨A', c', W2, hrun, hown2, hgb⟩ := app_key (ty := 38) (owned_grow HT.out.2.1 hg1) x hm1 (by have := HT.out.1; have := HTL.out; omega) (by have := HT.out.2.2.size; have := hg1.size; omega)
                  obtain ⟨gk, hgk⟩ : ∃ gk, wr.heap.size = gk := ⟨_, rfl⟩
                  rw [hgk] at hrun
                  have HRUN := Lib.hid hrun
                  have HN := Lib.hid (And.intro hown2 (grown_grows (Grows.trans HT.out.2.2 hg1) (owned_grow HT.out.2.1 hg1) hgb))
                  have HWS := Lib.hid (show wantK key ((L.map (·.key)).take (i + 1)) = wantK key ((L.map (·.key)).take i) ++ [x] from by rw [hst, if_neg (by rw [HXB.out]; decide)])
                  clear hg1 hm1 hrun hown2 hgb hst
                  go_wp2_with (first | rw [hW1] | (at_builtin; refine list_exec rfl (exec_appK rfl rfl rfl HRUN.out) ?_; simp only [Act.put, List.setIfInBounds_toArray, List.set_cons_zero, List.set_cons_succ]) | fail)
                  go_roundw
                  case rel => exact ⟨i + 1, A', c', nW + 1, by omega, by first | rfl | go_num, rfl, Lib.hid ⟨by rw [HWS.out, List.length_append, HT.out.1]; rfl, by rw [HWS.out]; exact HN.out.1, HN.out.2⟩⟩
                  case measure => simp [intOf]; omega
                · rw [hxb] at hls
                  have HXB := Lib.hid hxb
                  clear hxb cx2
                  have HWS := Lib.hid (show wantK key ((L.map (·.key)).take (i + 1)) = wantK key ((L.map (·.key)).take i) from by rw [hst, if_pos HXB.out])
                  clear hst
                  go_wp2_with (fail)
                  go_roundw
                  case rel => exact ⟨i + 1, AW, cW, nW, by omega, by first | rfl | go_num, rfl, Lib.hid ⟨by rw [HWS.out]; exact HT.out.1, by rw [HWS.out]; exact HT.out.2.1, HT.out.2.2⟩⟩
                  case measure => simp [intOf]; omega
              · obtain rfl : i = M := by omega
                have hWt : wantK key ((L.map (·.key)).take i) = wantK key (L.map (·.key)) := by rw [List.take_of_length_le (by rw [List.length_map]; have := HK5.out.2; omega)]
                have HTT := Lib.hid (show OwnS wr w9.heap.size AW nW cW (wantK key (L.map (·.key))) ∧ nW ≤ 300 ∧ Grows w9 wr from ⟨by rw [← hWt]; exact HT.out.2.1, by
                  have h1 : (wantK key ((L.map (·.key)).take i)).length ≤ ((L.map (·.key)).take i).length := List.length_filter_le _ _
                  rw [List.length_take, List.length_map] at h1
                  have := HT.out.1
                  have := HK5.out.2
                  omega, HT.out.2.2⟩)
                have HGG := Lib.hid (owned_grow H9.out.2.1 HT.out.2.2)
                have HSN := Lib.hid (ksame_names A7 n7 c7 AW nW cW (wantK key (L.map (·.key))) (wantK key (L.map (·.key))) wr (Row.owned HGG.out) (Row.owned HTT.out.1) (by have := HN7.out; omega))
                have hdd : decide (wantK key (L.map (·.key)) = wantK key (L.map (·.key))) = true := decide_eq_true rfl
                rw [hdd] at HSN
                clear hdd hWt HT
                go_wp2_with (fail)
                refine HSN.out.mono ?_
                rintro e w10 ⟨rfl, hg10⟩
                have hga := Grows.trans HTT.out.2.2 hg10
                have HFR := Lib.hid (from_at key 1099511627776 (H9.out.2.2.1.grow hga) (by omega) (by have := HK5.out.2; omega) (fromP_all (m := (1099511627776 : Int).toNat) (by have := HK5.out.2; have : (1099511627776 : Int).toNat = 1099511627776 := rfl; omega)))
                have H10 := Lib.hid (And.intro hg10 hga)
                clear hg10 hga HSN
                go_wp2_with (fail)
                refine HFR.out.mono ?_
                rintro e w11 ⟨AX, mx, cx, rfl, ho11, hg11⟩
                have hmx := OwnS.len ho11
                have HSN := Lib.hid (ksame_names AX mx cx AW nW cW (wantK key (L.map (·.key))) (wantK key (L.map (·.key))) w11 (Row.owned ho11) (Row.owned (owned_grow (owned_grow HTT.out.1 H10.out.1) hg11)) (by
                  have h1 : (wantK key (L.map (·.key))).length ≤ (L.map (·.key)).length := List.length_filter_le _ _
                  rw [List.length_map] at h1
                  have := HK5.out.2
                  omega))
                have hdd : decide (wantK key (L.map (·.key)) = wantK key (L.map (·.key))) = true := decide_eq_true rfl
                rw [hdd] at HSN
                have H11 := Lib.hid (Grows.trans H10.out.2 hg11)
                clear hdd hmx ho11 hg11 HFR
                go_wp2_with (fail)
                refine HSN.out.mono ?_
                rintro e w12 ⟨rfl, hg12⟩
                have H12 := Lib.hid hg12
                clear hg12
                go_wp2_with (fail)
                go_ret
                exact ⟨rfl, (H9.out.2.2.1.grow (Grows.trans H11.out H12.out)).low⟩
          · have hnx3 : nx = st := by omega
            subst hnx3
            have hsp := HST.out.2.1
            obtain ⟨s, hs⟩ : ∃ s, (fromP f nx L)[nx - 1]? = some s := ⟨_, List.getElem?_eq_getElem (by omega)⟩
            have hs2 : (wantK f (L.map (·.key)))[nx - 1]? = some s := by
              unfold fromP at hs
              rw [List.getElem?_take] at hs
              split at hs
              · exact hs
              · cases hs
            have hsl : s.length ≤ 1000000000 := by
              obtain ⟨p, hp, he⟩ := List.mem_map.1 (List.mem_filter.1 (List.mem_of_getElem? hs2)).1
              rw [← he]
              exact HK5.out.1.keys p hp
            have hsl2 : ((s.length : Nat) : Int) + 1 ≤ 9223372036854775807 := by omega
            have hnext := want_next HUP.out hsp hs2
            have hFr : Fr (wantK key (L.map (·.key))) (L.map (·.key)) (G ++ fromP f nx L) (s ++ [0]) nx (k + 1) := by
              refine ⟨?_, ?_⟩
              · rw [hnext, ← HG.out.1.all, List.append_assoc]
                congr 1
                unfold fromP
                exact List.take_append_drop _ _
              · rw [List.length_append, hnx]
                have := HG.out.1.len
                omega
            obtain ⟨ga, rfl⟩ : ∃ ga, AX = some ⟨ga, 0, none⟩ := by
              rcases ho6.2 with ⟨e, e2⟩ | ⟨g, cap, cur, e, _⟩
              · omega
              · injection e with e1 e2 e3; exact ⟨g, e1⟩
            obtain ⟨j, hj⟩ : ∃ j, nx - 1 = j := ⟨_, rfl⟩
            have hcell : w7.cell? ⟨ga, j, none⟩ = some (.string ⟨s.toArray⟩) := by
              have h1 := ho6.cells (g := ga) rfl (nx - 1) (kS s) (by rw [List.getElem?_map, hs]; rfl)
              rw [kadd, hj] at h1
              have hga := owned_lt3 ho6 (k := ga) rfl
              exact (World.cell?_of_block (a := ⟨ga, j, none⟩) (hgb.block ga hga.2 fun e => by
                have h2 := (owned_lt3 HG.out.2.1 e.symm).2
                omega)).trans h1
            have hji : (nx : Int) - 1 = (j : Int) := by omega
            have hj0 : (0 : Int) ≤ (j : Int) := by omega
            have hj1 : (j : Int) < (nx : Int) := by omega
            have HJW := Lib.hid (wrapK (x := (j : Int)) (by omega) (by omega))
            have HNX := Lib.hid (show Fr (wantK key (L.map (·.key))) (L.map (·.key)) (G ++ fromP f nx L) (s ++ [0]) nx (k + 1) ∧ OwnS w7 w5.heap.size A7 n7 c7 (G ++ fromP f nx L) ∧ Grows w5 w7 from ⟨hFr, ho7, hg57⟩)
            obtain ⟨wj1, wj2⟩ := HJW.out
            clear ho6 hg6 hnx hnx2 hrun ho7 hgb hn7 hg57 hs hs2 hnext hFr hj
            go_wp2_with (first | (at_builtin; refine list_exec rfl (exec_appK rfl rfl rfl HRUN.out) ?_; simp only [Act.put, List.setIfInBounds_toArray, List.set_cons_zero, List.set_cons_succ]) | fail)
            go_roundw
            case rel => exact ⟨k + 1, s ++ [0], A7, n7, c7, G ++ fromP f nx L, by omega, by first | rfl | go_num, congrArg Value.string (kcat s), rfl, HNX⟩
            case measure => simp [intOf]; omega
        · exfalso
          have h1 := HG.out.1.len
          have h2 := HG.out.1.le
          have h3 := HWL.out
          omega

set_option maxRecDepth 100000 in
theorem keysFrom_lifted (os : Os) (started : os.Started) (H : Type) (enc : TypeId × Value → H) :
    ReturnsInHanded {} Try.checked os 6 .any (Rows.keysFromSpec.pre6 enc Try.prog Try.f6 Rows.keysFromRow.domain false) (Rows.keysFromSpec.post enc Try.prog Try.f6 false true false false) := by
  refine lift_law (C := Try.checked) H enc own started (by kernel_rfl) Try.func6
    (ChangeSpec.witness6 (enc := enc) (C := Try.checked) false ⟨#[], #[.slice none 0 0, .string ⟨#[]⟩, .int .u8 0], []⟩ 16 (by kernel_rfl) (by kernel_rfl) (by kernel_rfl) (by kernel_rfl))
    laidOut (of_readable (by kernel_rfl)) rfl Try.underlying4 rfl (fun ds hd => ?_) (fun W base args ds p hval hA hsz => ?_)
  · match ds, hd with
    | [d1, d2, d3], _ => rfl
  · rw [Try.params6] at hA hval hsz
    obtain ⟨v0, vs0, d0, ds0, p0, q0, hargs, rfl, rfl, h0, r0⟩ := trodAll_cons hA
    obtain ⟨v1, vs1, d1, ds1, p1, q1, rfl, rfl, rfl, h1, r1⟩ := trodAll_cons r0
    obtain ⟨v2, vs2, d2, ds2, p2, q2, rfl, rfl, rfl, h2, r2⟩ := trodAll_cons r1
    obtain ⟨rfl, rfl, rfl⟩ := trodAll_nil r2
    obtain rfl : args = #[v0, v1, v2] := by cases args; simp_all
    obtain ⟨A0, n0, c0, xs0, rfl, hx0⟩ := open_ops13 (hval 0 22 v0 rfl rfl) h0
    obtain ⟨l1, rfl, hl1⟩ := open_text Try.underlying9 (hval 1 9 v1 rfl rfl) h1
    obtain ⟨a2, rfl, _, _, w2⟩ := open_int Try.underlying5 (hval 2 5 v2 rfl rfl) h2
    have b2 := bounds_u8 w2
    exact keysFrom_law W A0 n0 c0 xs0 hx0 l1 hl1 a2 (by omega)

theorem keysFrom_over : Rows.keysFromRow.holds Try.pinned (OpenSpec.ofChange Rows.keysFromSpec) :=
  OpenClaim.holds_of_wide 6 Try.f6 rfl rfl rfl rfl rfl rfl rfl ⟨rfl, rfl, rfl, rfl, rfl⟩ rfl rfl rfl rfl rfl (by kernel_rfl) Try.func6 (by kernel_rfl)
    (of_decide_eq_true (by kernel_rfl)) (by unfold Func.isWrapper; first | (rw [if_pos (by decide +kernel)]; kernel_rfl) | (rw [if_neg (by decide +kernel)]; exact ⟨rfl, rfl⟩))
    (fun os started H enc _ => keysFrom_lifted os started H enc)
theorem keysFrom_holds : Rows.KeysFromSaid := keysFrom_over
end Go.Proofs.Ytadgbobemmfjoaa