/-
  Texts that the statements' proofs lean on, one behind the other.
-/
import Derived.Test.YtdkpbphgaenlnaaGreatMWc
import Derived.Test.YtdkpbphgaenlnaaGreatMark
import Derived.Test.YtdkpbphgaenlnaaGreatInts
import Derived.Test.YtdkpbphgaenlnaaGreatMX
import Derived.Test.YtdkpbphgaenlnaaGreatMG
import Derived.Test.YtdkpbphgaenlnaaGreatMC
/-
  The document's disk: SyncDir, Create.
-/
namespace Go.Proofs.YtdkpbphgaenlnaaGreat
open Go.RowKit
set_option linter.unusedVariables false
set_option linter.unusedSimpArgs false
theorem infoFl : (Tryz.prog.info? 97).map (fun i => (i.zero, i.size, i.bytes)) = some (some (.agg #[.string ⟨#[]⟩, .int .i64 0]), 2, 24) := by kernel_rfl
theorem flC_one (f : Fl) : ∀ u ∈ flC f, u.oneCell' = true := by
  intro u hu
  simp only [flC, List.mem_cons, List.not_mem_nil, or_false] at hu
  rcases hu with rfl | rfl <;> simp [Value.oneCell']
section
variable {w w' : World} {r : Nat} {own : Nat → Prop} {m m' : Rf} {fv nv kv pv fv' nv' kv' pv' : Value}
/-- The disk's own block has turned; its rows are others of those that were there. -/
theorem RfAt.retop (h : RfAt w r own m fv nv kv pv) (hs : Spares (fun k => k = r) w w') (ht : Whole w' r 77 (rCells m' fv' nv' kv' pv'))
    (h1 : w.ownsRow 0 97 2 fv' m'.files.length (m'.files.flatMap flC)) (o1 : ∀ k, fv'.ownBlock = some k → own k)
    (h2 : w.ownsRow 0 102 2 nv' m'.names.length (m'.names.flatMap enC)) (o2 : ∀ k, nv'.ownBlock = some k → own k)
    (h3 : w.ownsRow 0 102 2 kv' m'.kept.length (m'.kept.flatMap enC)) (o3 : ∀ k, kv'.ownBlock = some k → own k)
    (h4 : w.ownsRow 0 95 4 pv' m'.pend.length (m'.pend.flatMap chC)) (o4 : ∀ k, pv'.ownBlock = some k → own k) : RfAt w' r own m' fv' nv' kv' pv' := by
  have keep : ∀ {e : TypeId} {k n : Nat} {u : Value} {xs : List Value}, w.ownsRow 0 e k u n xs → e ≠ 77 → w'.ownsRow 0 e k u n xs := fun hr hne => row_same hr fun k hk => hs.same k (hr.lt k hk).2 fun e => top_unlike h.top hr hne (e ▸ hk)
  exact ⟨ht, h.ro, fun k hk => Nat.lt_of_lt_of_le (h.lt k hk) hs.size, keep h1 (by decide), o1, keep h2 (by decide), o2, keep h3 (by decide), o3, keep h4 (by decide), o4⟩
/-- A file more, or a new row of files. -/
theorem RfAt.filedA {w6 : World} {p' : Value} {fs : List Fl} (h : RfAt w r own m fv nv kv pv) (hs : Spares (fun k => fv.ownBlock = some k) w w6) (hr : w6.ownsRow 0 97 2 p' fs.length (fs.flatMap flC))
    (hb : p'.ownBlock = fv.ownBlock ∨ ∃ g, p'.ownBlock = some g ∧ w.heap.size ≤ g) :
    RfAt (w6.setCell ⟨r, 1, none⟩ p') r (fun k => own k ∨ (w.heap.size ≤ k ∧ k < (w6.setCell ⟨r, 1, none⟩ p').heap.size)) { m with files := fs } p' nv kv pv ∧ Spares own w (w6.setCell ⟨r, 1, none⟩ p') := by
  have htop : Whole w6 r 77 (rCells m fv nv kv pv) := h.top.same (hs.same _ h.top.lt fun e => top_unlike h.top h.files (by decide) e)
  have hs2 : Spares (fun k => k = r) w6 (w6.setCell ⟨r, 1, none⟩ p') := (Spares.refl (fun k => k = r) w6).setCell (p := ⟨r, 1, none⟩) rfl p'
  have keep : ∀ {e : TypeId} {k n : Nat} {u : Value} {xs : List Value}, w6.ownsRow 0 e k u n xs → e ≠ 77 → (w6.setCell ⟨r, 1, none⟩ p').ownsRow 0 e k u n xs := fun hr hne => row_same hr fun k hk => hs2.same k (hr.lt k hk).2 fun e => top_unlike htop hr hne (e ▸ hk)
  have keep1 : ∀ {e : TypeId} {k n : Nat} {u : Value} {xs : List Value}, w.ownsRow 0 e k u n xs → e ≠ 97 → w6.ownsRow 0 e k u n xs := fun hr hne => row_same hr fun k hk => hs.same k (hr.lt k hk).2 (row_unlike8 hr h.files hne hk)
  have hk4 := keep hr (by decide)
  have hsz : w.heap.size ≤ (w6.setCell ⟨r, 1, none⟩ p').heap.size := Nat.le_trans hs.size hs2.size
  refine ⟨⟨htop.put 1 p', .inl h.ro, fun k hk => hk.elim (fun hk => Nat.lt_of_lt_of_le (h.lt k hk) hsz) (fun hk => hk.2), hk4, fun k hk => ?_, keep (keep1 h.names (by decide)) (by decide), fun k hk => .inl (h.no k hk), keep (keep1 h.kept (by decide)) (by decide), fun k hk => .inl (h.ko k hk), keep (keep1 h.pend (by decide)) (by decide), fun k hk => .inl (h.po k hk)⟩,
    (hs.wider fun k _ e => h.fo k e).trans (hs2.wider fun k _ e => e ▸ h.ro)⟩
  rcases hb with hb | ⟨g, hg, hge⟩
  · exact .inl (h.fo k (hb ▸ hk))
  · rw [hg] at hk
    injection hk with hk
    subst hk
    exact .inr ⟨hge, (hk4.lt _ hg).2⟩

set_option maxHeartbeats 4000000 in
set_option maxRecDepth 100000 in
theorem rsyncDir_any (w : World) (h : RfAt w r own m fv nv kv pv) (hF : RfFit m) : Calls Tryz.prog 57 #[.pointer (some ⟨r, 0, none⟩)] w fun e w' => RDid w r own m.syncDir e w' := by
  have c8 : w.cell? ⟨r, 8, none⟩ = some (.bool m.down) := h.cell 8
  have HTH := Lib.hid (rthing_any w h ⟨hF.nums.1.2, hF.nums.2.2⟩)
  have H := Lib.hid h
  unfold Rf.syncDir
  cases hd : m.down with
  | true =>
    rw [hd] at c8
    rw [if_pos rfl]
    clear h hF hd HTH
    go_enter Tryz.func57, Tryz.ntmps57
    go_wp2
    go_ret
    exact ⟨rfl, RfTo.same H.out (Spares.refl _ _) H.out.ro⟩
  | false =>
  rw [hd] at c8
  rw [if_neg (by decide)]
  obtain ⟨tc, htc⟩ : ∃ tc, m.thing.2 = tc := ⟨_, rfl⟩
  rw [htc] at HTH
  have HTC := Lib.hid htc
  by_cases hz : tc = 0
  · rw [if_pos (show m.thing.2 = 0 by rw [htc]; exact hz)]
    subst hz
    clear h hF hd htc
    go_enter Tryz.func57, Tryz.ntmps57
    go_wp2_with (fail)
    refine HTH.out.mono ?_
    rintro e w2 ⟨rfl, X, hX, hat, hs⟩
    obtain ⟨A, c, hA⟩ := slice_own2 hat.names
    obtain ⟨KA, kc, hKA⟩ := slice_own2 hat.kept
    obtain ⟨PA, pc, hPA⟩ := slice_own2 hat.pend
    have c2 : w2.cell? ⟨r, 2, none⟩ = some (.slice A X.names.length c) := hA ▸ hat.cell 2
    have c3 : w2.cell? ⟨r, 3, none⟩ = some (.slice KA X.kept.length kc) := hKA ▸ hat.cell 3
    have c4 : w2.cell? ⟨r, 4, none⟩ = some (.slice PA X.pend.length pc) := hPA ▸ hat.cell 4
    have f3 := hat.top.free 3
    have f4 := hat.top.free 4
    have HFIN := Lib.hid (show RfAt ((w2.setCell ⟨r, 3, none⟩ (.slice A X.names.length c)).setCell ⟨r, 4, none⟩ (.slice none 0 0)) r own { X with kept := X.names, pend := [] } fv nv nv (.slice none 0 0) ∧ Spares (fun k => k = r) w ((w2.setCell ⟨r, 3, none⟩ (.slice A X.names.length c)).setCell ⟨r, 4, none⟩ (.slice none 0 0)) by
      have s1 : Spares (fun k => k = r) w2 ((w2.setCell ⟨r, 3, none⟩ (.slice A X.names.length c)).setCell ⟨r, 4, none⟩ (.slice none 0 0)) := ((Spares.refl (fun k => k = r) w2).setCell (p := ⟨r, 3, none⟩) rfl _).setCell (p := ⟨r, 4, none⟩) rfl _
      refine ⟨hat.retop s1 ?_ hat.files hat.fo hat.names hat.no hat.names hat.no ⟨rfl, .inl ⟨rfl, rfl⟩⟩ (fun k hk => by cases hk), hs.trans s1⟩
      rw [← hA]
      exact (hat.top.put 3 nv).put 4 (.slice none 0 0))
    have HX := Lib.hid (And.intro hX (show X.names = m.names by rw [hX]; exact (thing_keep m).2.1))
    clear hX hat hs hA hKA hPA
    go_wp2_with (fail)
    go_ret
    refine ⟨rfl, ?_⟩
    rw [← HX.out.1, ← HX.out.2]
    exact RfTo.same HFIN.out.1 HFIN.out.2 H.out.ro
  · rw [if_neg (show ¬ m.thing.2 = 0 by rw [htc]; exact hz)]
    have hzb : (tc == 0) = false := by rw [beq_eq_false_iff_ne]; exact hz
    clear h hF hd htc
    go_enter Tryz.func57, Tryz.ntmps57
    go_wp2_with (fail)
    refine HTH.out.mono ?_
    rintro e w2 ⟨rfl, X, hX, hat, hs⟩
    have HAT := Lib.hid (And.intro hat hs)
    have HX := Lib.hid hX
    clear hat hs hX
    go_wp2_with (fail)
    go_ret
    refine ⟨by rw [HTC.out]; rfl, ?_⟩
    rw [← HX.out]
    exact RfTo.same HAT.out.1 HAT.out.2 H.out.ro

set_option maxHeartbeats 4000000 in
set_option maxRecDepth 100000 in
theorem rcreate_any (w : World) (n : Nm) (h : RfAt w r own m fv nv kv pv) (hF : RfFit m) : Calls Tryz.prog 20 #[.pointer (some ⟨r, 0, none⟩), .string ⟨n.toArray⟩] w fun e w' => RDid w r own (m.create n) e w' := by
  obtain ⟨i1, hi1, hz1, hy1, hb1⟩ := info_parts infoFl
  have HI1 := Lib.hid (And.intro hi1 (And.intro hz1 (And.intro hy1 hb1)))
  clear hi1 hz1 hy1 hb1
  have c8 : w.cell? ⟨r, 8, none⟩ = some (.bool m.down) := h.cell 8
  obtain ⟨A, c, hA, hrw⟩ := h.namesRw
  have c2 : w.cell? ⟨r, 2, none⟩ = some (.slice A m.names.length c) := by rw [← hA]; exact h.cell 2
  have HFI := Lib.hid (rfind_any w (c := c) n hrw (by have := hF.names; omega))
  have HTH := Lib.hid (rthing_any w h ⟨hF.nums.1.2, hF.nums.2.2⟩)
  have HRT := Lib.hid (rright_any n w)
  have H := Lib.hid h
  have HF := Lib.hid hF
  unfold Rf.create
  cases hd : m.down with
  | true =>
    rw [hd] at c8
    rw [if_pos rfl]
    clear h hF hA hrw c2 HFI hd HTH
    go_enter Tryz.func20, Tryz.ntmps20
    go_wp2
    go_ret
    exact ⟨rfl, RfTo.same H.out (Spares.refl _ _) H.out.ro⟩
  | false =>
  rw [hd] at c8
  rw [if_neg (by decide)]
  by_cases hr : right n = false
  · rw [if_pos hr]
    rw [hr] at HRT
    clear h hF hA hrw c2 HFI hd HTH
    go_enter Tryz.func20, Tryz.ntmps20
    go_wp2_with (fail)
    refine HRT.out.mono ?_
    rintro e w1 ⟨rfl, rfl⟩
    go_wp2_with (fail)
    go_ret
    exact ⟨rfl, RfTo.same H.out (Spares.refl _ _) H.out.ro⟩
  rw [if_neg hr]
  have hr1 : right n = true := by simpa using hr
  rw [hr1] at HRT
  clear hr hr1
  rcases fidx_find (n := n) (l := m.names) with ⟨hf, hx'⟩ | ⟨i, f, hf, hx', hi⟩
  rotate_left 1
  · rw [hf]
    rw [if_pos (show (some f).isSome = true from rfl)]
    rw [hx'] at HFI
    have hi0 : (i : Int) ≥ 0 := by omega
    clear h hA hrw hf hx' hF hd HTH hi
    go_enter Tryz.func20, Tryz.ntmps20
    go_wp2_with (fail)
    refine HRT.out.mono ?_
    rintro e w1 ⟨rfl, rfl⟩
    go_wp2_with (fail)
    refine HFI.out.mono ?_
    rintro e w1 ⟨rfl, rfl⟩
    go_wp2_with (fail)
    go_ret
    exact ⟨rfl, RfTo.same H.out (Spares.refl _ _) H.out.ro⟩
  rw [hf]
  rw [if_neg (show ¬ (none : Option Nat).isSome = true by decide)]
  rw [hx'] at HFI
  obtain ⟨nl, hnl⟩ : ∃ nl, m.names.length = nl := ⟨_, rfl⟩
  by_cases hbig : 4096 ≤ m.names.length
  · rw [if_pos hbig]
    rw [hnl] at hbig c2
    clear hA hrw hF hd HTH hf hx' h
    rw [hnl] at HFI
    go_enter Tryz.func20, Tryz.ntmps20
    go_wp2_with (fail)
    refine HRT.out.mono ?_
    rintro e w1 ⟨rfl, rfl⟩
    go_wp2_with (fail)
    refine HFI.out.mono ?_
    rintro e w1 ⟨rfl, rfl⟩
    go_wp2_with (fail)
    go_ret
    exact ⟨rfl, RfTo.same H.out (Spares.refl _ _) H.out.ro⟩
  rw [if_neg hbig]
  rw [hnl] at hbig c2 HFI
  obtain ⟨tc, htc⟩ : ∃ tc, m.thing.2 = tc := ⟨_, rfl⟩
  rw [htc] at HTH
  have HTC := Lib.hid htc
  by_cases hz : tc = 0
  · rw [if_pos (show m.thing.2 = 0 by rw [htc]; exact hz)]
    subst hz
    clear h hA hrw hF hd hf hx' htc
    go_enter Tryz.func20, Tryz.ntmps20
    go_wp2_with (fail)
    refine HRT.out.mono ?_
    rintro e w1 ⟨rfl, rfl⟩
    go_wp2_with (fail)
    refine HFI.out.mono ?_
    rintro e w1 ⟨rfl, rfl⟩
    go_wp2_with (fail)
    refine HTH.out.mono ?_
    rintro e w2 ⟨rfl, X, hX, hat, hs⟩
    obtain ⟨FA, fc, hFA⟩ := slice_own2 hat.files
    have hXf : X.files = m.files := by rw [hX]; exact (thing_keep m).1
    have hfl : X.files.length ≤ 100000 := by rw [hXf]; exact HF.out.files
    have c1 : ∀ w', Grows w2 w' → w'.cell? ⟨r, 1, none⟩ = some (.slice FA X.files.length fc) := fun w' hg => hFA ▸ (hg.whole hat.top).cell 1
    have HC1 := Lib.hid c1
    have c1w := c1 w2 (Grows.refl _)
    have HAT := Lib.hid (And.intro hat (And.intro hs hFA))
    have HX := Lib.hid (And.intro hX hXf)
    obtain ⟨fl, hfle⟩ : ∃ fl, X.files.length = fl := ⟨_, rfl⟩
    have HFL := Lib.hid hfle
    rw [hfle] at hfl c1w HC1
    have HR2 := Lib.hid (owned_grow (hFA ▸ hat.files) (grows_alloc w2 (.cells #[.string ⟨#[]⟩, .int .i64 0] 97)))
    rw [hfle] at HR2
    have hob : (Value.slice FA fl fc).ownBlock = fv.ownBlock := by rw [hFA, hfle]
    have HOB := Lib.hid hob
    have htopf := (show ∀ w5, (w2.alloc (.cells #[.string ⟨#[]⟩, .int .i64 0] 97)).grownBy w5 (Value.slice FA fl fc).ownBlock → Spares (fun k => fv.ownBlock = some k) w2 w5 ∧ Whole w5 r 77 (rCells X fv nv kv pv) from fun w5 hg5 => by
      have hsp : Spares (fun k => fv.ownBlock = some k) w2 w5 := Spares.grown (Spares.grows (grows_alloc w2 (.cells #[.string ⟨#[]⟩, .int .i64 0] 97))) hg5 fun g hg => hob ▸ hg
      exact ⟨hsp, hat.top.same (hsp.same r hat.top.lt fun e => top_unlike hat.top hat.files (by decide) e)⟩)
    have HTOPF := Lib.hid htopf
    have hwf : IntKind.i64.wrap ((fl : Int) + 1 - 1) = fl := by rw [IntWalk.i64_in _ (by omega)]; omega
    have hwf2 : IntKind.i64.wrap (fl : Int) = fl := IntWalk.i64_in _ (by omega)
    clear hX hat hs hFA c1 hXf hfle hob htopf
    go_wp2_with (first
      | (at_builtin
         refine list_append_at rfl (.tmp 34) (.tmp 36) 73 rfl 0 97 i1 (.agg #[.string ⟨#[]⟩, .int .i64 0]) 2 24 Tryz.underlying73 HI1.out.1 HI1.out.2.1 HI1.out.2.2.1 HI1.out.2.2.2 rfl (by decide) rfl
           HR2.out rfl (row_lit8 _ _ _) (fun h => by cases h) (flC_one ⟨[], 0⟩) (fl + 1) rfl (by unfold maxLen; omega) (by omega) (Nat.zero_le _) ?_
         intro FB fd w5 hr5 hg5 hat5
         have c5 : w5.cell? ⟨r, 1, none⟩ = some (.slice FA fl fc) := by have := ((HTOPF.out w5 hg5).2).cell 1; rw [this, HAT.out.2.2, ← HFL.out]; rfl
         have f5 : w5.frozen? ⟨r, 1, none⟩ = false := ((HTOPF.out w5 hg5).2).free 1
         have HR5 := Lib.hid (And.intro hr5 (And.intro hg5 hat5))
         clear hr5 hg5 hat5))
    have hfa := HAT.out.1.filedA (p' := .slice FB (fl + 1) fd) (fs := X.files ++ [⟨[], 0⟩]) (HTOPF.out w5 HR5.out.2.1).1 (by
      rw [List.length_append, HFL.out, List.flatMap_append]
      show w5.ownsRow 0 97 2 _ (fl + 1) (X.files.flatMap flC ++ (flC ⟨[], 0⟩ ++ []))
      rw [List.append_nil]
      exact HR5.out.1) (HR5.out.2.2.imp (fun h => h.trans HOB.out) fun h => ⟨_, h, le_alloc _ _⟩)
    have HFA := Lib.hid hfa
    have hnm := rnames_any _ (.made n fl) hfa.1 (by
      show X.names.length ≤ 100000 ∧ X.pend.length ≤ 100000
      have := thing_keep m
      rw [HX.out.1, this.2.1, this.2.2.2.1]
      exact ⟨HF.out.names, HF.out.pend⟩)
    have HNM := Lib.hid (show Calls Tryz.prog 73 #[.pointer (some ⟨r, 0, none⟩), .agg #[.int .i64 1, .string ⟨n.toArray⟩, .string ⟨#[]⟩, .int .i64 (fl : Int)]] (w5.setCell ⟨r, 1, none⟩ (.slice FB (fl + 1) fd)) _ from hnm)
    clear hfa hnm
    refine HNM.out.mono ?_
    rintro e w7 ⟨rfl, hto⟩
    have HTO := Lib.hid hto
    clear hto
    go_wp2_with (fail)
    go_ret
    refine ⟨rfl, ?_⟩
    have hfin := RfTo.behind H.out.ro HAT.out.2.1 (RfTo.trans HFA.out.2 (fun k hk => hk.imp id fun e => e.1) HTO.out)
    rw [show m.files.length = fl by rw [← HX.out.2]; exact HFL.out, ← HX.out.2, ← HX.out.1]
    exact hfin
  · rw [if_neg (show ¬ m.thing.2 = 0 by rw [htc]; exact hz)]
    have hzb : (tc == 0) = false := by rw [beq_eq_false_iff_ne]; exact hz
    clear h hA hrw hF hd hf hx' htc
    go_enter Tryz.func20, Tryz.ntmps20
    go_wp2_with (fail)
    refine HRT.out.mono ?_
    rintro e w1 ⟨rfl, rfl⟩
    go_wp2_with (fail)
    refine HFI.out.mono ?_
    rintro e w1 ⟨rfl, rfl⟩
    go_wp2_with (fail)
    refine HTH.out.mono ?_
    rintro e w2 ⟨rfl, X, hX, hat, hs⟩
    have HAT := Lib.hid (And.intro hat hs)
    have HX := Lib.hid hX
    clear hat hs hX
    go_wp2_with (fail)
    go_ret
    refine ⟨by rw [HTC.out]; rfl, ?_⟩
    rw [← HX.out]
    exact RfTo.same HAT.out.1 HAT.out.2 H.out.ro
end
end Go.Proofs.YtdkpbphgaenlnaaGreat

/-
  The document's disk: a file is so.
-/
namespace Go.Proofs.YtdkpbphgaenlnaaGreat
open Go.RowKit
set_option linter.unusedVariables false
set_option linter.unusedSimpArgs false
theorem Row.ownedK {w : World} {e : TypeId} {A : Option Addr} {n c k : Nat} {xs : List Value} (h : w.ownsRow 0 e k (.slice A n c) n xs) : Row w w.heap.size A (k * n) xs ∧ (A = none → c = 0) := by
  have hl : xs.length = k * n := by have := h.1; rw [Nat.mul_comm]; omega
  refine ⟨⟨hl, fun j v hv => ?_⟩, fun hA => ?_⟩
  · have hj : j < xs.length := (List.getElem?_eq_some_iff.1 hv).1
    have hn : 0 < n := by
      rcases Nat.eq_zero_or_pos n with h0 | h0
      · rw [h0, Nat.mul_zero] at hl; omega
      · exact h0
    obtain ⟨g, cap, hval, _, hlt⟩ := h.form hn
    injection hval with hA _ _
    subst hA
    exact ⟨_, rfl, hlt, h.cells (g := g) rfl j v hv⟩
  · rcases h.2 with ⟨h1, _⟩ | ⟨g, cap, _, h1, _⟩
    · injection h1
    · injection h1 with h1 _ _; rw [hA] at h1; cases h1
theorem flat_set2 (v : Fl) : ∀ (l : List Fl) (k : Nat), k < l.length → ((l.flatMap flC).set (k * 2) (.string ⟨v.bytes.toArray⟩)).set (k * 2 + 1) (.int .i64 (v.kept : Int)) = (l.set k v).flatMap flC
  | a :: l, 0, _ => by
    simp only [List.flatMap_cons, flC, List.set_cons_zero, Nat.zero_mul, List.cons_append, List.nil_append, Nat.zero_add, List.set_cons_succ]
  | a :: l, k + 1, h => by
    have ih := flat_set2 v l k (by simpa using h)
    rw [List.set_cons_succ, List.flatMap_cons, List.flatMap_cons, ← ih]
    simp only [flC, List.cons_append, List.nil_append]
    rw [show (k + 1) * 2 = k * 2 + 1 + 1 by omega, show k * 2 + 1 + 1 + 1 = (k * 2 + 1) + 1 + 1 by omega]
    simp only [List.set_cons_succ]
section
variable {w w' : World} {r : Nat} {own : Nat → Prop} {m m' : Rf} {fv nv kv pv : Value}
set_option maxHeartbeats 4000000 in
set_option maxRecDepth 100000 in
theorem rset_any (w : World) (k : Nat) (v : Fl) (h : RfAt w r own m fv nv kv pv) (hF : m.files.length ≤ 100000) (hk : k < m.files.length) :
    Calls Tryz.prog 65 #[.pointer (some ⟨r, 0, none⟩), .int .i64 (k : Int), .agg #[.string ⟨v.bytes.toArray⟩, .int .i64 (v.kept : Int)]] w fun e w' => e = .returned (.tuple #[]) ∧ RfTo w r own w' (m.set k v) := by
  obtain ⟨i1, hi1, hz1, hy1, hb1⟩ := info_parts infoFl
  have HI1 := Lib.hid (And.intro hi1 (And.intro hz1 (And.intro hy1 hb1)))
  clear hi1 hz1 hy1 hb1
  obtain ⟨FA, fc, hFA⟩ := slice_own2 h.files
  obtain ⟨W1, hW1⟩ : ∃ W1, w.alloc (.cells #[.string ⟨v.bytes.toArray⟩, .int .i64 (v.kept : Int)] 97) = W1 := ⟨_, rfl⟩
  have HG1 := Lib.hid (show Grows w W1 from hW1 ▸ grows_alloc _ _)
  have HM1 := Lib.hid (show Whole W1 w.heap.size 97 #[.string ⟨v.bytes.toArray⟩, .int .i64 (v.kept : Int)] from hW1 ▸ Whole.made _ _ _)
  obtain ⟨W2, hW2⟩ : ∃ W2, W1.alloc (.cells #[] 97) = W2 := ⟨_, rfl⟩
  have HG2 := Lib.hid (show Grows W1 W2 from hW2 ▸ grows_alloc _ _)
  have HO2 := Lib.hid (show W2.ownsRow W1.heap.size 97 2 (.slice (some ⟨W1.heap.size, 0, none⟩) 0 0) 0 [] from hW2 ▸ World.ownsRow_lit (size := 2) (e := 97) (base := W1.heap.size) W1 #[] 0 (Nat.le_refl _) (Nat.zero_le _) rfl)
  have HGA := Lib.hid (Grows.trans HG1.out HG2.out)
  have h2 := h.grow HGA.out
  have hrw := Row.ownedK (hFA ▸ h2.files)
  have c1 : W2.cell? ⟨r, 1, none⟩ = some (.slice FA m.files.length fc) := hFA ▸ h2.cell 1
  have HRW := Lib.hid hrw
  have H := Lib.hid h
  have HFA := Lib.hid hFA
  obtain ⟨fl, hfl⟩ : ∃ fl, m.files.length = fl := ⟨_, rfl⟩
  have HFL := Lib.hid hfl
  rw [hfl] at HRW c1 hF hk
  have haft := (show ∀ LB ld (w5 : World), w5.ownsRow W1.heap.size 97 2 (.slice LB fl ld) fl ([] ++ m.files.flatMap flC) → W2.grownBy w5 (Value.slice (some ⟨W1.heap.size, 0, none⟩) 0 0).ownBlock →
      ∃ g, LB = some ⟨g, 0, none⟩ ∧ (∃ ov, w5.cell? { block := g, off := k * 2 } = some (.string ov)) ∧ w5.frozen? { block := g, off := k * 2 } = false ∧ (∃ oi : Int, w5.cell? { block := g, off := k * 2 + 1 } = some (.int .i64 oi)) ∧ w5.frozen? { block := g, off := k * 2 + 1 } = false ∧
        w5.cell? { block := w.heap.size, off := 0 } = some (.string ⟨v.bytes.toArray⟩) ∧ w5.cell? { block := w.heap.size, off := 1 } = some (.int .i64 (v.kept : Int)) ∧ w5.cell? { block := r, off := 1 } = some (.slice FA fl fc) ∧ w5.frozen? { block := r, off := 1 } = false ∧ ¬ g = r ∧ ¬ r = g ∧
        RfTo w r own (((w5.setCell { block := g, off := k * 2 } (.string ⟨v.bytes.toArray⟩)).setCell { block := g, off := k * 2 + 1 } (.int .i64 (v.kept : Int))).setCell { block := r, off := 1 } (.slice (some ⟨g, 0, none⟩) fl ld)) (m.set k v) from fun LB ld w5 hr5 hg5 => by
    rw [List.nil_append] at hr5
    obtain ⟨g, cap, hv, hgb, hglt⟩ := hr5.form (by omega)
    injection hv with hv1 _ hv2
    subst hv1 hv2
    have hG5 : Grows W1 w5 := Below.grown HG2.out hg5 HG2.out.size fun q hq => by
      have := (HO2.out.lt q hq).1; exact this
    have hGw : Grows w w5 := Grows.trans HG1.out hG5
    have h5 := H.out.grow hGw
    have hr : r < w.heap.size := H.out.top.lt
    have hws := HG1.out.size
    have hkl : k < m.files.length := by rw [HFL.out]; exact hk
    have hfi : m.files[k]? = some m.files[k] := List.getElem?_eq_getElem hkl
    have x0 := flat_get flL m.files k 0 _ hfi (by omega)
    have x1 := flat_get flL m.files k 1 _ hfi (by omega)
    have y0 := (hr5.cellAt (k * 2) (by omega)).trans x0
    have y1 := (hr5.cellAt (k * 2 + 1) (by omega)).trans x1
    have hm5 := hG5.whole HM1.out
    have s1 := (hr5.stored (k * 2) (.string ⟨v.bytes.toArray⟩)).1
    have s2 := (s1.stored (k * 2 + 1) (.int .i64 (v.kept : Int))).1
    rw [flat_set2 v m.files k hkl] at s2
    have hgr : ¬ g = r := by omega
    have hg6 : Grows w ((w5.setCell { block := g, off := k * 2 } (.string ⟨v.bytes.toArray⟩)).setCell { block := g, off := k * 2 + 1 } (.int .i64 (v.kept : Int))) := (hGw.setCell (show w.heap.size ≤ g by omega) _).setCell (show w.heap.size ≤ g by omega) _
    have hfa := H.out.filedA (p' := .slice (some ⟨g, 0, none⟩) fl ld) (fs := m.files.set k v) (Spares.grows hg6) (by rw [List.length_set, HFL.out]; exact owned_from s2 (Nat.zero_le _)) (.inr ⟨g, rfl, by omega⟩)
    refine ⟨g, rfl, ⟨_, y0⟩, hr5.frozenAt _, ⟨_, y1⟩, hr5.frozenAt _, hm5.cell 0, hm5.cell 1, ?_, h5.top.free 1, hgr, fun e => hgr e.symm, ?_⟩
    · have := h5.cell 1
      rw [← HFL.out, ← HFA.out]
      exact this
    · exact ⟨_, _, _, _, _, hfa.1, hfa.2, fun q hq => hq.imp id fun e => e.1⟩)
  have HAFT := Lib.hid haft
  have hkI : (k : Int) < (fl : Int) := by omega
  have hk0 : (0 : Int) ≤ (k : Int) := by omega
  clear h h2 hrw hFA hfl haft
  go_enter Tryz.func65, Tryz.ntmps65
  go_wp2_with (first
    | (at_builtin
       refine list_append_at rfl (.tmp 7) (.tmp 11) 73 rfl W1.heap.size 97 i1 (.agg #[.string ⟨#[]⟩, .int .i64 0]) 2 24 Tryz.underlying73 HI1.out.1 HI1.out.2.1 HI1.out.2.2.1 HI1.out.2.2.2 rfl (by decide) rfl
         HO2.out rfl HRW.out.1 HRW.out.2 (fun u hu => by obtain ⟨q, _, hq⟩ := List.mem_flatMap.1 hu; exact flC_one q u hq) fl (Nat.zero_add _) (by unfold maxLen; omega) (by omega) HG2.out.size ?_
       intro LB ld w5 hr5 hg5 hat5
       obtain ⟨g, rfl, ⟨ov, q1⟩, q1f, ⟨oi, q2⟩, q2f, q3, q4, q5, q5f, q6, q7, hfin⟩ := HAFT.out LB ld w5 hr5 hg5
       have HFIN := Lib.hid hfin
       clear hr5 hg5 hat5 hfin))
  go_end0
  exact ⟨rfl, HFIN.out⟩
end
end Go.Proofs.YtdkpbphgaenlnaaGreat

/-
  The document's disk: Sync.
-/
namespace Go.Proofs.YtdkpbphgaenlnaaGreat
open Go.RowKit
set_option linter.unusedVariables false
set_option linter.unusedSimpArgs false
theorem RfFit.thing {m : Rf} (h : RfFit m) : RfFit m.thing.1 := by
  have hk := thing_keep m
  have hn := h.nums
  have hs : ∀ x : Int, -1 ≤ x → x ≤ 9223372036854775807 → -1 ≤ sooner x ∧ sooner x ≤ 9223372036854775807 := fun x h1 h2 => by
    unfold sooner
    split <;> omega
  have h1 := hs _ hn.1.1 hn.1.2
  have h2 := hs _ hn.2.1 hn.2.2
  refine ⟨?_, by rw [hk.1]; exact h.files, by rw [hk.2.1]; exact h.names, by rw [hk.2.2.1]; exact h.kept, by rw [hk.2.2.2.1]; exact h.pend, by rw [hk.1, hk.2.1]; exact h.idx, by rw [hk.1]; exact h.bytes⟩
  unfold Rf.thing Rf.sooner
  dsimp only
  (repeat' split) <;> dsimp only <;> omega
section
variable {w w' : World} {r : Nat} {own : Nat → Prop} {m m' : Rf} {fv nv kv pv fv' nv' kv' pv' : Value}
set_option maxHeartbeats 4000000 in
set_option maxRecDepth 100000 in
theorem rsync_any (w : World) (n : Nm) (h : RfAt w r own m fv nv kv pv) (hF : RfFit m) : Calls Tryz.prog 55 #[.pointer (some ⟨r, 0, none⟩), .string ⟨n.toArray⟩] w fun e w' => RDid w r own (m.sync n) e w' := by
  have c8 : w.cell? ⟨r, 8, none⟩ = some (.bool m.down) := h.cell 8
  obtain ⟨A, c, hA, hrw⟩ := h.namesRw
  have c2 : w.cell? ⟨r, 2, none⟩ = some (.slice A m.names.length c) := by rw [← hA]; exact h.cell 2
  have HFI := Lib.hid (rfind_any w (c := c) n hrw (by have := hF.names; omega))
  have HTH := Lib.hid (rthing_any w h ⟨hF.nums.1.2, hF.nums.2.2⟩)
  have H := Lib.hid h
  have HF := Lib.hid hF
  unfold Rf.sync
  cases hd : m.down with
  | true =>
    rw [hd] at c8
    rw [if_pos rfl]
    clear h hF hA hrw c2 HFI hd HTH
    go_enter Tryz.func55, Tryz.ntmps55
    go_wp2
    go_ret
    exact ⟨rfl, RfTo.same H.out (Spares.refl _ _) H.out.ro⟩
  | false =>
  rw [hd] at c8
  rw [if_neg (by decide)]
  rcases fidx_find (n := n) (l := m.names) with ⟨hf, hx'⟩ | ⟨i, f, hf, hx', hi⟩
  · rw [hf]
    dsimp only
    rw [hx'] at HFI
    clear h hA hrw hf hx' hF hd HTH
    go_enter Tryz.func55, Tryz.ntmps55
    go_wp2_with (fail)
    refine HFI.out.mono ?_
    rintro e w1 ⟨rfl, rfl⟩
    go_wp2_with (fail)
    go_ret
    exact ⟨rfl, RfTo.same H.out (Spares.refl _ _) H.out.ro⟩
  rw [hf]
  dsimp only
  rw [hx'] at HFI
  have hi0 : ¬ ((i : Int) < 0) := by omega
  have hi1 : (0 : Int) ≤ (i : Int) := by omega
  obtain ⟨tc, htc⟩ : ∃ tc, m.thing.2 = tc := ⟨_, rfl⟩
  rw [htc] at HTH
  have HTC := Lib.hid htc
  have HI := Lib.hid hi
  by_cases hz : tc = 0
  · rw [if_pos (show m.thing.2 = 0 by rw [htc]; exact hz)]
    subst hz
    clear h hA hrw hF hd hf hx' htc hi
    go_enter Tryz.func55, Tryz.ntmps55
    go_wp2_with (fail)
    refine HFI.out.mono ?_
    rintro e w1 ⟨rfl, rfl⟩
    go_wp2_with (fail)
    refine HTH.out.mono ?_
    rintro e w2 ⟨rfl, X, hX, hat, hs⟩
    have hFX : RfFit X := hX ▸ RfFit.thing HF.out
    have hXk := thing_keep m
    rw [← hX] at hXk
    obtain ⟨gn, cn, gf, cf, v, hn, hfv, hv, hil, hfl, hc⟩ := hat.found hFX (i := i) (n := n) (f := f) (by rw [hXk.2.1]; exact HI.out)
    have hgd : m.files.getD f ⟨[], 0⟩ = v := by rw [← hXk.1]; exact getD_of hv
    have hvb := hFX.bytes v (List.mem_of_getElem? hv)
    have hset : ∀ w6, Grows w2 w6 → _ := fun w6 hg => rset_any w6 f ⟨v.bytes, v.bytes.length⟩ (hat.grow hg) hFX.files hfl
    rw [hn, hfv] at hc
    obtain ⟨z1w, z2w, z3w, z4w, z5w⟩ := hc w2 (Grows.refl _)
    have HC := Lib.hid hc
    have HAT := Lib.hid (And.intro hat hs)
    have HX := Lib.hid (And.intro hX (And.intro hXk hgd))
    have hiI : (i : Int) < (X.names.length : Int) := by omega
    have hfI : (f : Int) < (X.files.length : Int) := by omega
    have hf0 : (0 : Int) ≤ (f : Int) := by omega
    obtain ⟨nl, hnl⟩ : ∃ nl, X.names.length = nl := ⟨_, rfl⟩
    obtain ⟨fl, hfl'⟩ : ∃ fl, X.files.length = fl := ⟨_, rfl⟩
    obtain ⟨sb, hsb⟩ : ∃ s : ByteArray, (⟨v.bytes.toArray⟩ : ByteArray) = s := ⟨_, rfl⟩
    obtain ⟨vl, hvl⟩ : ∃ vl, v.bytes.length = vl := ⟨_, rfl⟩
    have hss : sb.size = vl := by rw [← hsb, ← hvl]; simp [ByteArray.size]
    have HSET := Lib.hid (show ∀ w6, Grows w2 w6 → Calls Tryz.prog 65 #[.pointer (some ⟨r, 0, none⟩), .int .i64 (f : Int), .agg #[.string sb, .int .i64 (vl : Int)]] w6 fun e w' => e = .returned (.tuple #[]) ∧ RfTo w6 r own w' (X.set f ⟨v.bytes, v.bytes.length⟩) from hsb ▸ hvl ▸ hset)
    rw [hnl] at hiI z2w HC
    rw [hfl'] at hfI z1w HC
    rw [hsb] at z4w HC
    clear hat hs hX hXk hgd hFX hn hfv hv hil hfl hc hset hvb hnl hfl' hsb hvl z4w z5w c2 c8 z1w
    go_wp2_with (fail)
    refine wp_region_facts_tail (E := Grows) 20 [valFact (.pointer (some ⟨r, 0, none⟩)), valFact (.int .i64 (f : Int)), valFact (.pointer (some ⟨r, 0, none⟩)), valFact (.pointer (some ⟨r, 0, none⟩)), valFact (.pointer (some ⟨r, 1, none⟩)), valFact (.slice (some ⟨gf, 0, none⟩) fl cf), valFact (.int .i64 (f : Int)), valFact (.pointer (some ⟨gf, f * 2, none⟩)), valFact (.pointer (some ⟨gf, f * 2, none⟩)), valFact (.string sb), valFact (.pointer (some ⟨r, 0, none⟩)), valFact (.pointer (some ⟨r, 0, none⟩)), valFact (.pointer (some ⟨r, 1, none⟩)), valFact (.slice (some ⟨gf, 0, none⟩) fl cf), valFact (.int .i64 (f : Int)), valFact (.pointer (some ⟨gf, f * 2, none⟩)), valFact (.pointer (some ⟨gf, f * 2, none⟩)), valFact (.string sb), valFact (.int .i64 (vl : Int)), valFact (.agg #[.string sb, .int .i64 (vl : Int)])] mixed (by kernel_rfl) (fun _ _ _ => Grows.trans) (grows_drew _) ?_
    simp only [List.take_succ_cons, List.take_zero, List.drop_succ_cons, List.drop_zero]
    refine f_val (.pointer (some ⟨r, 0, none⟩)) (by rfl) ?_ ?_
    · intro w' hC; clear hC; first | (go_simp; done)
    simp only [Act.put, List.setIfInBounds_toArray, List.set_cons_zero, List.set_cons_succ]
    refine f_val (.int .i64 (f : Int)) (by rfl) ?_ ?_
    · intro w' hC; clear hC; first | (go_simp; done)
    simp only [Act.put, List.setIfInBounds_toArray, List.set_cons_zero, List.set_cons_succ]
    refine f_val (.pointer (some ⟨r, 0, none⟩)) (by rfl) ?_ ?_
    · intro w' hC; clear hC; first | (go_simp; done)
    simp only [Act.put, List.setIfInBounds_toArray, List.set_cons_zero, List.set_cons_succ]
    refine f_val (.pointer (some ⟨r, 0, none⟩)) (by rfl) ?_ ?_
    · intro w' hC; clear hC; first | (go_simp; done)
    simp only [Act.put, List.setIfInBounds_toArray, List.set_cons_zero, List.set_cons_succ]
    refine f_val (.pointer (some ⟨r, 1, none⟩)) (by rfl) ?_ ?_
    · intro w' hC; clear hC; first | (go_simp; done)
    simp only [Act.put, List.setIfInBounds_toArray, List.set_cons_zero, List.set_cons_succ]
    refine f_val (.slice (some ⟨gf, 0, none⟩) fl cf) (by rfl) ?_ ?_
    · intro w' hC; obtain ⟨z1, z2, z3, z4, z5⟩ := HC.out w' hC; clear hC; first | (go_simp; done)
    simp only [Act.put, List.setIfInBounds_toArray, List.set_cons_zero, List.set_cons_succ]
    refine f_val (.int .i64 (f : Int)) (by rfl) ?_ ?_
    · intro w' hC; clear hC; first | (go_simp; done)
    simp only [Act.put, List.setIfInBounds_toArray, List.set_cons_zero, List.set_cons_succ]
    refine f_val (.pointer (some ⟨gf, f * 2, none⟩)) (by rfl) ?_ ?_
    · intro w' hC; clear hC; first | (go_simp; done)
    simp only [Act.put, List.setIfInBounds_toArray, List.set_cons_zero, List.set_cons_succ]
    refine f_val (.pointer (some ⟨gf, f * 2, none⟩)) (by rfl) ?_ ?_
    · intro w' hC; clear hC; first | (go_simp; done)
    simp only [Act.put, List.setIfInBounds_toArray, List.set_cons_zero, List.set_cons_succ]
    refine f_val (.string sb) (by rfl) ?_ ?_
    · intro w' hC; obtain ⟨z1, z2, z3, z4, z5⟩ := HC.out w' hC; clear hC; first | (go_simp; done)
    simp only [Act.put, List.setIfInBounds_toArray, List.set_cons_zero, List.set_cons_succ]
    refine f_val (.pointer (some ⟨r, 0, none⟩)) (by rfl) ?_ ?_
    · intro w' hC; clear hC; first | (go_simp; done)
    simp only [Act.put, List.setIfInBounds_toArray, List.set_cons_zero, List.set_cons_succ]
    refine f_val (.pointer (some ⟨r, 0, none⟩)) (by rfl) ?_ ?_
    · intro w' hC; clear hC; first | (go_simp; done)
    simp only [Act.put, List.setIfInBounds_toArray, List.set_cons_zero, List.set_cons_succ]
    refine f_val (.pointer (some ⟨r, 1, none⟩)) (by rfl) ?_ ?_
    · intro w' hC; clear hC; first | (go_simp; done)
    simp only [Act.put, List.setIfInBounds_toArray, List.set_cons_zero, List.set_cons_succ]
    refine f_val (.slice (some ⟨gf, 0, none⟩) fl cf) (by rfl) ?_ ?_
    · intro w' hC; obtain ⟨z1, z2, z3, z4, z5⟩ := HC.out w' hC; clear hC; first | (go_simp; done)
    simp only [Act.put, List.setIfInBounds_toArray, List.set_cons_zero, List.set_cons_succ]
    refine f_val (.int .i64 (f : Int)) (by rfl) ?_ ?_
    · intro w' hC; clear hC; first | (go_simp; done)
    simp only [Act.put, List.setIfInBounds_toArray, List.set_cons_zero, List.set_cons_succ]
    refine f_val (.pointer (some ⟨gf, f * 2, none⟩)) (by rfl) ?_ ?_
    · intro w' hC; clear hC; first | (go_simp; done)
    simp only [Act.put, List.setIfInBounds_toArray, List.set_cons_zero, List.set_cons_succ]
    refine f_val (.pointer (some ⟨gf, f * 2, none⟩)) (by rfl) ?_ ?_
    · intro w' hC; clear hC; first | (go_simp; done)
    simp only [Act.put, List.setIfInBounds_toArray, List.set_cons_zero, List.set_cons_succ]
    refine f_val (.string sb) (by rfl) ?_ ?_
    · intro w' hC; obtain ⟨z1, z2, z3, z4, z5⟩ := HC.out w' hC; clear hC; first | (go_simp; done)
    simp only [Act.put, List.setIfInBounds_toArray, List.set_cons_zero, List.set_cons_succ]
    refine f_val (.int .i64 (vl : Int)) (by rfl) ?_ ?_
    · intro w' hC; clear hC; first | (go_simp; done)
    simp only [Act.put, List.setIfInBounds_toArray, List.set_cons_zero, List.set_cons_succ]
    refine f_val (.agg #[.string sb, .int .i64 (vl : Int)]) (by rfl) ?_ ?_
    · intro w' hC; clear hC; first | (go_simp; done)
    simp only [Act.put, List.setIfInBounds_toArray, List.set_cons_zero, List.set_cons_succ]
    refine wpF_end ?_
    intro w6 hC hks
    have HCw6 := Lib.hid hC
    clear hC hks
    go_wp2_with (fail)
    refine (HSET.out w6 HCw6.out).mono ?_
    rintro e w7 ⟨rfl, hto⟩
    have HTO := Lib.hid hto
    clear hto
    go_wp2_with (fail)
    go_ret
    refine ⟨rfl, ?_⟩
    have hfin := RfTo.behind H.out.ro (HAT.out.2.trans (Spares.grows HCw6.out)) HTO.out
    rw [HX.out.2.2, ← HX.out.1]
    exact hfin
  · rw [if_neg (show ¬ m.thing.2 = 0 by rw [htc]; exact hz)]
    have hzb : (tc == 0) = false := by rw [beq_eq_false_iff_ne]; exact hz
    clear h hA hrw hF hd hf hx' htc hi
    go_enter Tryz.func55, Tryz.ntmps55
    go_wp2_with (fail)
    refine HFI.out.mono ?_
    rintro e w1 ⟨rfl, rfl⟩
    go_wp2_with (fail)
    refine HTH.out.mono ?_
    rintro e w2 ⟨rfl, X, hX, hat, hs⟩
    have HAT := Lib.hid (And.intro hat hs)
    have HX := Lib.hid hX
    clear hat hs hX
    go_wp2_with (fail)
    go_ret
    refine ⟨by rw [HTC.out]; rfl, ?_⟩
    rw [← HX.out]
    exact RfTo.same HAT.out.1 HAT.out.2 H.out.ro
end
end Go.Proofs.YtdkpbphgaenlnaaGreat

/-
  The document's disk: Append.
-/
namespace Go.Proofs.YtdkpbphgaenlnaaGreat
open Go.RowKit
set_option linter.unusedVariables false
set_option linter.unusedSimpArgs false
theorem str_add8 (a b : List UInt8) : (⟨a.toArray⟩ : ByteArray) ++ (⟨b.toArray⟩ : ByteArray) = ⟨(a ++ b).toArray⟩ := by
  show (⟨a.toArray⟩ : ByteArray).append ⟨b.toArray⟩ = _
  simp [ByteArray.append, ByteArray.copySlice, ByteArray.ext_iff]
theorem used_le {m : Rf} (hF : RfFit m) : m.used ≤ 10000000000 := by
  have h1 := S_le (ln := m.len) (K := 100000) (l := m.names) fun i hi => by
    obtain ⟨p, hp, rfl⟩ := List.mem_map.1 hi
    have h2 := hF.idx p hp
    unfold Rf.len
    rw [List.getD_eq_getElem?_getD, List.getElem?_eq_getElem h2]
    exact (hF.bytes _ (List.getElem_mem h2)).1
  have h3 : m.names.length * 100000 ≤ 100000 * 100000 := Nat.mul_le_mul_right _ hF.names
  exact Nat.le_trans h1 h3
section
variable {w w' : World} {r : Nat} {own : Nat → Prop} {m m' : Rf} {fv nv kv pv fv' nv' kv' pv' : Value}
set_option maxHeartbeats 4000000 in
set_option maxRecDepth 100000 in
theorem rappend_any (w : World) (n : Nm) (b : List UInt8) {A3 : Option Addr} {ln c3 : Nat} (hkeep : ∀ w1 w2 w', Grows w w1 → Spares (fun k => k = r) w1 w2 → Grows w2 w' → Sl w' A3 ln c3 b) (hln : ln ≤ 100000) (h : RfAt w r own m fv nv kv pv) (hF : RfFit m) (hmost : 0 ≤ m.most ∧ m.most ≤ 100000000000) : Calls Tryz.prog 53 #[.pointer (some ⟨r, 0, none⟩), .string ⟨n.toArray⟩, .slice A3 ln c3] w fun e w' => RDid w r own (m.append n b) e w' := by
  have c8 : w.cell? ⟨r, 8, none⟩ = some (.bool m.down) := h.cell 8
  have H0 := Lib.hid (show ∀ w', Grows w w' → w'.cell? ⟨r, 0, none⟩ = some (.int .i64 m.most) from fun w' (hg : Grows w w') => (h.grow hg).cell 0)
  obtain ⟨A, c, hA, hrw⟩ := h.namesRw
  have c2 : w.cell? ⟨r, 2, none⟩ = some (.slice A m.names.length c) := by rw [← hA]; exact h.cell 2
  have HFI := Lib.hid (rfind_any w (c := c) n hrw (by have := hF.names; omega))
  have H := Lib.hid h
  have HF := Lib.hid hF
  have HK := Lib.hid hkeep
  have hlb : b.length = ln := (hkeep w w w (Grows.refl _) (Spares.refl _ _) (Grows.refl _)).len
  unfold Rf.append
  cases hd : m.down with
  | true =>
    rw [hd] at c8
    rw [if_pos rfl]
    clear h hF hA hrw c2 HFI hd hkeep hlb hmost
    go_enter Tryz.func53, Tryz.ntmps53
    go_wp2
    go_ret
    exact ⟨rfl, RfTo.same H.out (Spares.refl _ _) H.out.ro⟩
  | false =>
  rw [hd] at c8
  rw [if_neg (by decide)]
  rcases fidx_find (n := n) (l := m.names) with ⟨hf, hx'⟩ | ⟨i, f, hf, hx', hi⟩
  · rw [hf]
    dsimp only
    rw [hx'] at HFI
    clear h hA hrw hf hx' hF hd hkeep hlb hmost
    go_enter Tryz.func53, Tryz.ntmps53
    go_wp2_with (fail)
    refine HFI.out.mono ?_
    rintro e w1 ⟨rfl, rfl⟩
    go_wp2_with (fail)
    go_ret
    exact ⟨rfl, RfTo.same H.out (Spares.refl _ _) H.out.ro⟩
  rw [hf]
  dsimp only
  rw [hx'] at HFI
  have hi0 : ¬ ((i : Int) < 0) := by omega
  have hi1 : (0 : Int) ≤ (i : Int) := by omega
  have HI := Lib.hid hi
  have hul := used_le hF
  have HUS := Lib.hid (fun w' (hg : Grows w w') => rused_any w' (h.grow hg) hF)
  obtain ⟨us, hus⟩ : ∃ us, m.used = us := ⟨_, rfl⟩
  obtain ⟨ms, hms⟩ : ∃ ms, m.most = ms := ⟨_, rfl⟩
  obtain ⟨dd, hdd⟩ : ∃ dd, ms - (us : Int) = dd := ⟨_, rfl⟩
  have hwd : IntKind.i64.wrap (ms - (us : Int)) = dd := by rw [IntWalk.i64_in _ (by omega)]; exact hdd
  rw [hus] at HUS hul
  rw [hms] at H0 hmost
  rw [hus, hms, hdd, hlb]
  clear hdd hul hmost
  by_cases hfull : dd < (ln : Int)
  · rw [if_pos hfull]
    clear h hA hrw hf hx' hF hd hkeep hi hus hms hlb
    go_enter Tryz.func53, Tryz.ntmps53
    go_wp2_with (fail)
    refine HFI.out.mono ?_
    rintro e w1 ⟨rfl, rfl⟩
    go_wp2_with (fail)
    refine wp_region_facts (E := Grows) [valFact (.slice A3 ln c3), valFact (.int .i64 (ln : Int)), valFact (.pointer (some ⟨r, 0, none⟩)), valFact (.pointer (some ⟨r, 0, none⟩)), valFact (.pointer (some ⟨r, 0, none⟩)), valFact (.int .i64 ms), valFact (.pointer (some ⟨r, 0, none⟩)), valFact (.int .i64 (us : Nat)), valFact (.int .i64 dd), valFact (.bool true)] (by kernel_rfl) (by kernel_rfl) (fun _ _ _ => Grows.trans) (grows_drew _) ?_
    refine f_val (.slice A3 ln c3) (by rfl) ?_ ?_
    · intro w' hC; clear hC; first | (go_simp; done)
    simp only [Act.put, List.setIfInBounds_toArray, List.set_cons_zero, List.set_cons_succ]
    refine f_val (.int .i64 (ln : Int)) (by rfl) ?_ ?_
    · intro w' hC; clear hC; first | (go_simp; done)
    simp only [Act.put, List.setIfInBounds_toArray, List.set_cons_zero, List.set_cons_succ]
    refine f_val (.pointer (some ⟨r, 0, none⟩)) (by rfl) ?_ ?_
    · intro w' hC; clear hC; first | (go_simp; done)
    simp only [Act.put, List.setIfInBounds_toArray, List.set_cons_zero, List.set_cons_succ]
    refine f_val (.pointer (some ⟨r, 0, none⟩)) (by rfl) ?_ ?_
    · intro w' hC; clear hC; first | (go_simp; done)
    simp only [Act.put, List.setIfInBounds_toArray, List.set_cons_zero, List.set_cons_succ]
    refine f_val (.pointer (some ⟨r, 0, none⟩)) (by rfl) ?_ ?_
    · intro w' hC; clear hC; first | (go_simp; done)
    simp only [Act.put, List.setIfInBounds_toArray, List.set_cons_zero, List.set_cons_succ]
    refine f_val (.int .i64 ms) (by rfl) ?_ ?_
    · intro w' hC; have z0 := H0.out w' hC; clear hC; first | (go_simp; done)
    simp only [Act.put, List.setIfInBounds_toArray, List.set_cons_zero, List.set_cons_succ]
    refine f_val (.pointer (some ⟨r, 0, none⟩)) (by rfl) ?_ ?_
    · intro w' hC; clear hC; first | (go_simp; done)
    simp only [Act.put, List.setIfInBounds_toArray, List.set_cons_zero, List.set_cons_succ]
    refine f_call 28 #[.pointer (some ⟨r, 0, none⟩)] (.int .i64 (us : Nat)) (by rfl) (by intro w' hC; clear hC; go_simp) ?_ ?_
    · intro w' hC hks; exact HUS.out w' hC
    simp only [Act.put, List.setIfInBounds_toArray, List.set_cons_zero, List.set_cons_succ]
    refine f_val (.int .i64 dd) (by rfl) ?_ ?_
    · intro w' hC; clear hC; first | (go_simp; done)
    simp only [Act.put, List.setIfInBounds_toArray, List.set_cons_zero, List.set_cons_succ]
    refine f_val (.bool true) (by rfl) ?_ ?_
    · intro w' hC; clear hC; first | (go_simp; done)
    simp only [Act.put, List.setIfInBounds_toArray, List.set_cons_zero, List.set_cons_succ]
    intro w5 hC _
    have HCw5 := Lib.hid hC
    clear hC
    go_wp2_with (fail)
    go_ret
    exact ⟨rfl, RfTo.same (H.out.grow HCw5.out) (Spares.grows HCw5.out) H.out.ro⟩
  rw [if_neg hfull]
  obtain ⟨tc, htc⟩ : ∃ tc, m.thing.2 = tc := ⟨_, rfl⟩
  have HTH := Lib.hid (fun w' (hg : Grows w w') => rthing_any w' (h.grow hg) ⟨hF.nums.1.2, hF.nums.2.2⟩)
  rw [htc] at HTH
  have HTC := Lib.hid htc
  by_cases hz : tc = 0
  · rw [if_pos (show m.thing.2 = 0 by rw [htc]; exact hz)]
    subst hz
    have HLB := Lib.hid hlb
    clear h hA hrw hF hd hf hx' htc hi hkeep hus hms hlb
    go_enter Tryz.func53, Tryz.ntmps53
    go_wp2_with (fail)
    refine HFI.out.mono ?_
    rintro e w1 ⟨rfl, rfl⟩
    go_wp2_with (fail)
    refine wp_region_facts (E := Grows) [valFact (.slice A3 ln c3), valFact (.int .i64 (ln : Int)), valFact (.pointer (some ⟨r, 0, none⟩)), valFact (.pointer (some ⟨r, 0, none⟩)), valFact (.pointer (some ⟨r, 0, none⟩)), valFact (.int .i64 ms), valFact (.pointer (some ⟨r, 0, none⟩)), valFact (.int .i64 (us : Nat)), valFact (.int .i64 dd), valFact (.bool false)] (by kernel_rfl) (by kernel_rfl) (fun _ _ _ => Grows.trans) (grows_drew _) ?_
    refine f_val (.slice A3 ln c3) (by rfl) ?_ ?_
    · intro w' hC; clear hC; first | (go_simp; done)
    simp only [Act.put, List.setIfInBounds_toArray, List.set_cons_zero, List.set_cons_succ]
    refine f_val (.int .i64 (ln : Int)) (by rfl) ?_ ?_
    · intro w' hC; clear hC; first | (go_simp; done)
    simp only [Act.put, List.setIfInBounds_toArray, List.set_cons_zero, List.set_cons_succ]
    refine f_val (.pointer (some ⟨r, 0, none⟩)) (by rfl) ?_ ?_
    · intro w' hC; clear hC; first | (go_simp; done)
    simp only [Act.put, List.setIfInBounds_toArray, List.set_cons_zero, List.set_cons_succ]
    refine f_val (.pointer (some ⟨r, 0, none⟩)) (by rfl) ?_ ?_
    · intro w' hC; clear hC; first | (go_simp; done)
    simp only [Act.put, List.setIfInBounds_toArray, List.set_cons_zero, List.set_cons_succ]
    refine f_val (.pointer (some ⟨r, 0, none⟩)) (by rfl) ?_ ?_
    · intro w' hC; clear hC; first | (go_simp; done)
    simp only [Act.put, List.setIfInBounds_toArray, List.set_cons_zero, List.set_cons_succ]
    refine f_val (.int .i64 ms) (by rfl) ?_ ?_
    · intro w' hC; have z0 := H0.out w' hC; clear hC; first | (go_simp; done)
    simp only [Act.put, List.setIfInBounds_toArray, List.set_cons_zero, List.set_cons_succ]
    refine f_val (.pointer (some ⟨r, 0, none⟩)) (by rfl) ?_ ?_
    · intro w' hC; clear hC; first | (go_simp; done)
    simp only [Act.put, List.setIfInBounds_toArray, List.set_cons_zero, List.set_cons_succ]
    refine f_call 28 #[.pointer (some ⟨r, 0, none⟩)] (.int .i64 (us : Nat)) (by rfl) (by intro w' hC; clear hC; go_simp) ?_ ?_
    · intro w' hC hks; exact HUS.out w' hC
    simp only [Act.put, List.setIfInBounds_toArray, List.set_cons_zero, List.set_cons_succ]
    refine f_val (.int .i64 dd) (by rfl) ?_ ?_
    · intro w' hC; clear hC; first | (go_simp; done)
    simp only [Act.put, List.setIfInBounds_toArray, List.set_cons_zero, List.set_cons_succ]
    refine f_val (.bool false) (by rfl) ?_ ?_
    · intro w' hC; clear hC; first | (go_simp; done)
    simp only [Act.put, List.setIfInBounds_toArray, List.set_cons_zero, List.set_cons_succ]
    intro w5 hC _
    have HCw5 := Lib.hid hC
    clear hC
    go_wp2_with (fail)
    refine (HTH.out w5 HCw5.out).mono ?_
    rintro e w2 ⟨rfl, X, hX, hat, hs⟩
    have hFX : RfFit X := hX ▸ RfFit.thing HF.out
    have hXk := thing_keep m
    rw [← hX] at hXk
    obtain ⟨gn, cn, gf, cf, v, hn, hfv, hv, hil, hfl, hc⟩ := hat.found hFX (i := i) (n := n) (f := f) (by rw [hXk.2.1]; exact HI.out)
    have hgd : m.files.getD f ⟨[], 0⟩ = v := by rw [← hXk.1]; exact getD_of hv
    have hvb := hFX.bytes v (List.mem_of_getElem? hv)
    have hset : ∀ w6, Grows w2 w6 → _ := fun w6 hg => rset_any w6 f ⟨v.bytes ++ b, v.kept⟩ (hat.grow hg) hFX.files hfl
    have hsl : ∀ w6, Grows w2 w6 → _ := fun w6 hg => run_string (HK.out w5 w2 w6 HCw5.out hs hg)
    rw [hn, hfv] at hc
    obtain ⟨z1w, z2w, z3w, z4w, z5w⟩ := hc w2 (Grows.refl _)
    have HC := Lib.hid hc
    have HAT := Lib.hid (And.intro hat hs)
    have HX := Lib.hid (And.intro hX (And.intro hXk hgd))
    have hiI : (i : Int) < (X.names.length : Int) := by omega
    have hfI : (f : Int) < (X.files.length : Int) := by omega
    have hf0 : (0 : Int) ≤ (f : Int) := by omega
    obtain ⟨nl, hnl⟩ : ∃ nl, X.names.length = nl := ⟨_, rfl⟩
    obtain ⟨fl, hfl'⟩ : ∃ fl, X.files.length = fl := ⟨_, rfl⟩
    obtain ⟨sb, hsb⟩ : ∃ s : ByteArray, (⟨v.bytes.toArray⟩ : ByteArray) = s := ⟨_, rfl⟩
    obtain ⟨tb, htb⟩ : ∃ s : ByteArray, (⟨b.toArray⟩ : ByteArray) = s := ⟨_, rfl⟩
    obtain ⟨st, hst⟩ : ∃ s : ByteArray, sb ++ tb = s := ⟨_, rfl⟩
    obtain ⟨kp, hkp⟩ : ∃ kp, v.kept = kp := ⟨_, rfl⟩
    have hss : sb.size ≤ 100000 := by rw [← hsb]; simpa [ByteArray.size] using hvb.1
    have hts : tb.size ≤ 100000 := by rw [← htb]; simpa [ByteArray.size, HLB.out] using hln
    have hst' : (⟨(v.bytes ++ b).toArray⟩ : ByteArray) = st := by rw [← str_add8, hsb, htb]; exact hst
    have HSET := Lib.hid (show ∀ w6, Grows w2 w6 → Calls Tryz.prog 65 #[.pointer (some ⟨r, 0, none⟩), .int .i64 (f : Int), .agg #[.string st, .int .i64 (kp : Int)]] w6 fun e w' => e = .returned (.tuple #[]) ∧ RfTo w6 r own w' (X.set f ⟨v.bytes ++ b, v.kept⟩) from hst' ▸ hkp ▸ hset)
    have HSL := Lib.hid (show ∀ w6, Grows w2 w6 → (convert 55 9 (.slice A3 ln c3)).run Tryz.prog w6 = .ok (.string tb) w6 from htb ▸ hsl)
    rw [hnl] at hiI z2w HC
    rw [hfl'] at hfI z1w HC
    rw [hsb, hkp] at HC
    have HST := Lib.hid hst
    have HSS := Lib.hid (And.intro hss hts)
    clear hat hs hX hXk hgd hFX hn hfv hv hil hfl hc hset hvb hnl hfl' hsb htb hst hst' hss hts hsl hkp z4w z5w c2 c8 z1w
    go_wp2_with (fail)
    refine wp_region_facts_tail (E := Grows) 22 [valFact (.pointer (some ⟨r, 0, none⟩)), valFact (.int .i64 (f : Int)), valFact (.pointer (some ⟨r, 0, none⟩)), valFact (.pointer (some ⟨r, 0, none⟩)), valFact (.pointer (some ⟨r, 1, none⟩)), valFact (.slice (some ⟨gf, 0, none⟩) fl cf), valFact (.int .i64 (f : Int)), valFact (.pointer (some ⟨gf, f * 2, none⟩)), valFact (.pointer (some ⟨gf, f * 2, none⟩)), valFact (.string sb), valFact (.slice A3 ln c3), valFact (.string tb), valFact (.string st), valFact (.pointer (some ⟨r, 0, none⟩)), valFact (.pointer (some ⟨r, 0, none⟩)), valFact (.pointer (some ⟨r, 1, none⟩)), valFact (.slice (some ⟨gf, 0, none⟩) fl cf), valFact (.int .i64 (f : Int)), valFact (.pointer (some ⟨gf, f * 2, none⟩)), valFact (.pointer (some ⟨gf, f * 2 + 1, none⟩)), valFact (.int .i64 (kp : Int)), valFact (.agg #[.string st, .int .i64 (kp : Int)])] mixed (by kernel_rfl) (fun _ _ _ => Grows.trans) (grows_drew _) ?_
    simp only [List.take_succ_cons, List.take_zero, List.drop_succ_cons, List.drop_zero]
    refine f_val (.pointer (some ⟨r, 0, none⟩)) (by rfl) ?_ ?_
    · intro w' hC; clear hC; first | (go_simp; done)
    simp only [Act.put, List.setIfInBounds_toArray, List.set_cons_zero, List.set_cons_succ]
    refine f_val (.int .i64 (f : Int)) (by rfl) ?_ ?_
    · intro w' hC; clear hC; first | (go_simp; done)
    simp only [Act.put, List.setIfInBounds_toArray, List.set_cons_zero, List.set_cons_succ]
    refine f_val (.pointer (some ⟨r, 0, none⟩)) (by rfl) ?_ ?_
    · intro w' hC; clear hC; first | (go_simp; done)
    simp only [Act.put, List.setIfInBounds_toArray, List.set_cons_zero, List.set_cons_succ]
    refine f_val (.pointer (some ⟨r, 0, none⟩)) (by rfl) ?_ ?_
    · intro w' hC; clear hC; first | (go_simp; done)
    simp only [Act.put, List.setIfInBounds_toArray, List.set_cons_zero, List.set_cons_succ]
    refine f_val (.pointer (some ⟨r, 1, none⟩)) (by rfl) ?_ ?_
    · intro w' hC; clear hC; first | (go_simp; done)
    simp only [Act.put, List.setIfInBounds_toArray, List.set_cons_zero, List.set_cons_succ]
    refine f_val (.slice (some ⟨gf, 0, none⟩) fl cf) (by rfl) ?_ ?_
    · intro w' hC; obtain ⟨z1, z2, z3, z4, z5⟩ := HC.out w' hC; clear hC; first | (go_simp; done)
    simp only [Act.put, List.setIfInBounds_toArray, List.set_cons_zero, List.set_cons_succ]
    refine f_val (.int .i64 (f : Int)) (by rfl) ?_ ?_
    · intro w' hC; clear hC; first | (go_simp; done)
    simp only [Act.put, List.setIfInBounds_toArray, List.set_cons_zero, List.set_cons_succ]
    refine f_val (.pointer (some ⟨gf, f * 2, none⟩)) (by rfl) ?_ ?_
    · intro w' hC; clear hC; first | (go_simp; done)
    simp only [Act.put, List.setIfInBounds_toArray, List.set_cons_zero, List.set_cons_succ]
    refine f_val (.pointer (some ⟨gf, f * 2, none⟩)) (by rfl) ?_ ?_
    · intro w' hC; clear hC; first | (go_simp; done)
    simp only [Act.put, List.setIfInBounds_toArray, List.set_cons_zero, List.set_cons_succ]
    refine f_val (.string sb) (by rfl) ?_ ?_
    · intro w' hC; obtain ⟨z1, z2, z3, z4, z5⟩ := HC.out w' hC; clear hC; first | (go_simp; done)
    simp only [Act.put, List.setIfInBounds_toArray, List.set_cons_zero, List.set_cons_succ]
    refine f_val (.slice A3 ln c3) (by rfl) ?_ ?_
    · intro w' hC; clear hC; first | (go_simp; done)
    simp only [Act.put, List.setIfInBounds_toArray, List.set_cons_zero, List.set_cons_succ]
    refine f_val (.string tb) (by rfl) ?_ ?_
    · intro w' hC; have hs := HSL.out w' hC; clear hC; first | (go_simp; done)
    simp only [Act.put, List.setIfInBounds_toArray, List.set_cons_zero, List.set_cons_succ]
    refine f_val (.string st) (by rfl) ?_ ?_
    · intro w' hC; have h1 := HSS.out.1; have h2 := HSS.out.2; clear hC; first | (go_simp; rw [if_neg (by omega), HST.out]; done)
    simp only [Act.put, List.setIfInBounds_toArray, List.set_cons_zero, List.set_cons_succ]
    refine f_val (.pointer (some ⟨r, 0, none⟩)) (by rfl) ?_ ?_
    · intro w' hC; clear hC; first | (go_simp; done)
    simp only [Act.put, List.setIfInBounds_toArray, List.set_cons_zero, List.set_cons_succ]
    refine f_val (.pointer (some ⟨r, 0, none⟩)) (by rfl) ?_ ?_
    · intro w' hC; clear hC; first | (go_simp; done)
    simp only [Act.put, List.setIfInBounds_toArray, List.set_cons_zero, List.set_cons_succ]
    refine f_val (.pointer (some ⟨r, 1, none⟩)) (by rfl) ?_ ?_
    · intro w' hC; clear hC; first | (go_simp; done)
    simp only [Act.put, List.setIfInBounds_toArray, List.set_cons_zero, List.set_cons_succ]
    refine f_val (.slice (some ⟨gf, 0, none⟩) fl cf) (by rfl) ?_ ?_
    · intro w' hC; obtain ⟨z1, z2, z3, z4, z5⟩ := HC.out w' hC; clear hC; first | (go_simp; done)
    simp only [Act.put, List.setIfInBounds_toArray, List.set_cons_zero, List.set_cons_succ]
    refine f_val (.int .i64 (f : Int)) (by rfl) ?_ ?_
    · intro w' hC; clear hC; first | (go_simp; done)
    simp only [Act.put, List.setIfInBounds_toArray, List.set_cons_zero, List.set_cons_succ]
    refine f_val (.pointer (some ⟨gf, f * 2, none⟩)) (by rfl) ?_ ?_
    · intro w' hC; clear hC; first | (go_simp; done)
    simp only [Act.put, List.setIfInBounds_toArray, List.set_cons_zero, List.set_cons_succ]
    refine f_val (.pointer (some ⟨gf, f * 2 + 1, none⟩)) (by rfl) ?_ ?_
    · intro w' hC; clear hC; first | (go_simp; done)
    simp only [Act.put, List.setIfInBounds_toArray, List.set_cons_zero, List.set_cons_succ]
    refine f_val (.int .i64 (kp : Int)) (by rfl) ?_ ?_
    · intro w' hC; obtain ⟨z1, z2, z3, z4, z5⟩ := HC.out w' hC; clear hC; first | (go_simp; done)
    simp only [Act.put, List.setIfInBounds_toArray, List.set_cons_zero, List.set_cons_succ]
    refine f_val (.agg #[.string st, .int .i64 (kp : Int)]) (by rfl) ?_ ?_
    · intro w' hC; clear hC; first | (go_simp; done)
    simp only [Act.put, List.setIfInBounds_toArray, List.set_cons_zero, List.set_cons_succ]
    refine wpF_end ?_
    intro w6 hC hks
    have HCw6 := Lib.hid hC
    clear hC hks
    go_wp2_with (fail)
    refine (HSET.out w6 HCw6.out).mono ?_
    rintro e w7 ⟨rfl, hto⟩
    have HTO := Lib.hid hto
    clear hto
    go_wp2_with (fail)
    go_ret
    refine ⟨rfl, ?_⟩
    have hfin := RfTo.behind H.out.ro ((Spares.grows HCw5.out).trans (HAT.out.2.trans (Spares.grows HCw6.out))) HTO.out
    rw [HX.out.2.2, ← HX.out.1]
    exact hfin
  · rw [if_neg (show ¬ m.thing.2 = 0 by rw [htc]; exact hz)]
    have hzb : (tc == 0) = false := by rw [beq_eq_false_iff_ne]; exact hz
    clear h hA hrw hF hd hf hx' htc hi hkeep hus hms hlb
    go_enter Tryz.func53, Tryz.ntmps53
    go_wp2_with (fail)
    refine HFI.out.mono ?_
    rintro e w1 ⟨rfl, rfl⟩
    go_wp2_with (fail)
    refine wp_region_facts (E := Grows) [valFact (.slice A3 ln c3), valFact (.int .i64 (ln : Int)), valFact (.pointer (some ⟨r, 0, none⟩)), valFact (.pointer (some ⟨r, 0, none⟩)), valFact (.pointer (some ⟨r, 0, none⟩)), valFact (.int .i64 ms), valFact (.pointer (some ⟨r, 0, none⟩)), valFact (.int .i64 (us : Nat)), valFact (.int .i64 dd), valFact (.bool false)] (by kernel_rfl) (by kernel_rfl) (fun _ _ _ => Grows.trans) (grows_drew _) ?_
    refine f_val (.slice A3 ln c3) (by rfl) ?_ ?_
    · intro w' hC; clear hC; first | (go_simp; done)
    simp only [Act.put, List.setIfInBounds_toArray, List.set_cons_zero, List.set_cons_succ]
    refine f_val (.int .i64 (ln : Int)) (by rfl) ?_ ?_
    · intro w' hC; clear hC; first | (go_simp; done)
    simp only [Act.put, List.setIfInBounds_toArray, List.set_cons_zero, List.set_cons_succ]
    refine f_val (.pointer (some ⟨r, 0, none⟩)) (by rfl) ?_ ?_
    · intro w' hC; clear hC; first | (go_simp; done)
    simp only [Act.put, List.setIfInBounds_toArray, List.set_cons_zero, List.set_cons_succ]
    refine f_val (.pointer (some ⟨r, 0, none⟩)) (by rfl) ?_ ?_
    · intro w' hC; clear hC; first | (go_simp; done)
    simp only [Act.put, List.setIfInBounds_toArray, List.set_cons_zero, List.set_cons_succ]
    refine f_val (.pointer (some ⟨r, 0, none⟩)) (by rfl) ?_ ?_
    · intro w' hC; clear hC; first | (go_simp; done)
    simp only [Act.put, List.setIfInBounds_toArray, List.set_cons_zero, List.set_cons_succ]
    refine f_val (.int .i64 ms) (by rfl) ?_ ?_
    · intro w' hC; have z0 := H0.out w' hC; clear hC; first | (go_simp; done)
    simp only [Act.put, List.setIfInBounds_toArray, List.set_cons_zero, List.set_cons_succ]
    refine f_val (.pointer (some ⟨r, 0, none⟩)) (by rfl) ?_ ?_
    · intro w' hC; clear hC; first | (go_simp; done)
    simp only [Act.put, List.setIfInBounds_toArray, List.set_cons_zero, List.set_cons_succ]
    refine f_call 28 #[.pointer (some ⟨r, 0, none⟩)] (.int .i64 (us : Nat)) (by rfl) (by intro w' hC; clear hC; go_simp) ?_ ?_
    · intro w' hC hks; exact HUS.out w' hC
    simp only [Act.put, List.setIfInBounds_toArray, List.set_cons_zero, List.set_cons_succ]
    refine f_val (.int .i64 dd) (by rfl) ?_ ?_
    · intro w' hC; clear hC; first | (go_simp; done)
    simp only [Act.put, List.setIfInBounds_toArray, List.set_cons_zero, List.set_cons_succ]
    refine f_val (.bool false) (by rfl) ?_ ?_
    · intro w' hC; clear hC; first | (go_simp; done)
    simp only [Act.put, List.setIfInBounds_toArray, List.set_cons_zero, List.set_cons_succ]
    intro w5 hC _
    have HCw5 := Lib.hid hC
    clear hC
    go_wp2_with (fail)
    refine (HTH.out w5 HCw5.out).mono ?_
    rintro e w2 ⟨rfl, X, hX, hat, hs⟩
    have HAT := Lib.hid (And.intro hat hs)
    have HX := Lib.hid hX
    clear hat hs hX
    go_wp2_with (fail)
    go_ret
    refine ⟨by rw [HTC.out]; rfl, ?_⟩
    rw [← HX.out]
    exact RfTo.same HAT.out.1 ((Spares.grows HCw5.out).trans HAT.out.2) H.out.ro
end
end Go.Proofs.YtdkpbphgaenlnaaGreat

/-
  The document's disk: New.
-/
namespace Go.Proofs.YtdkpbphgaenlnaaGreat
open Go.RowKit
set_option linter.unusedVariables false
set_option linter.unusedSimpArgs false
set_option maxHeartbeats 4000000 in
set_option maxRecDepth 100000 in
theorem rnew_any (w : World) (x : Int) : Calls Tryz.prog 7 #[.int .i64 x] w fun e w' => e = .returned (.pointer (some ⟨w.heap.size, 0, none⟩)) ∧ RfAt w' w.heap.size (fun k => k = w.heap.size) (Rf.new x) (.slice none 0 0) (.slice none 0 0) (.slice none 0 0) (.slice none 0 0) ∧ Grows w w' := by
  have HAT := Lib.hid (show RfAt (w.alloc (.cells (rCells (Rf.new x) (.slice none 0 0) (.slice none 0 0) (.slice none 0 0) (.slice none 0 0)) 77)) w.heap.size (fun k => k = w.heap.size) (Rf.new x) (.slice none 0 0) (.slice none 0 0) (.slice none 0 0) (.slice none 0 0) ∧ Grows w (w.alloc (.cells (rCells (Rf.new x) (.slice none 0 0) (.slice none 0 0) (.slice none 0 0) (.slice none 0 0)) 77)) from
    ⟨⟨Whole.made _ _ _, rfl, fun k hk => by rw [hk, World.size_alloc]; exact Nat.lt_succ_self _, ⟨rfl, .inl ⟨rfl, rfl⟩⟩, fun k hk => (by cases hk), ⟨rfl, .inl ⟨rfl, rfl⟩⟩, fun k hk => (by cases hk), ⟨rfl, .inl ⟨rfl, rfl⟩⟩, fun k hk => (by cases hk), ⟨rfl, .inl ⟨rfl, rfl⟩⟩, fun k hk => (by cases hk)⟩, grows_alloc _ _⟩)
  rcases Int.lt_or_le 0 x with h0 | h0
  · have e0 : max x 0 = x := by omega
    rcases Int.lt_or_le x 67108864 with h1 | h1
    · have e1 : min x 67108864 = x := by omega
      have HE := Lib.hid (show Rf.new x = ⟨x, [], [], [], [], 0, -1, -1, false⟩ by unfold Rf.new; rw [e0, e1])
      go_enter Tryz.func7, Tryz.ntmps7
      go_wp2
      go_ret
      rw [HE.out] at HAT ⊢
      exact ⟨rfl, HAT.out⟩
    · have e1 : min x 67108864 = 67108864 := by omega
      have HE := Lib.hid (show Rf.new x = ⟨67108864, [], [], [], [], 0, -1, -1, false⟩ by unfold Rf.new; rw [e0, e1])
      go_enter Tryz.func7, Tryz.ntmps7
      go_wp2
      go_ret
      rw [HE.out] at HAT ⊢
      exact ⟨rfl, HAT.out⟩
  · have e0 : max x 0 = 0 := by omega
    have HE := Lib.hid (show Rf.new x = ⟨0, [], [], [], [], 0, -1, -1, false⟩ by unfold Rf.new; rw [e0]; rfl)
    go_enter Tryz.func7, Tryz.ntmps7
    go_wp2
    go_ret
    rw [HE.out] at HAT ⊢
    exact ⟨rfl, HAT.out⟩
/-! How long the names can get. -/
theorem del_len (x : Nm) (l : Dir) : (Dir.del x l).length ≤ l.length := List.length_filter_le _ _
theorem rput_len (e : Nm × Nat) : ∀ l : Dir, (rput e l).length ≤ l.length + 1
  | [] => Nat.le_refl _
  | y :: r => by
    unfold rput
    split
    · have := rput_len e r
      simp only [List.length_cons]
      omega
    · have := del_len e.1 (y :: r)
      simp only [List.length_cons] at this ⊢
      omega
theorem rdoes_len (c : Ch) (l : Dir) : (rdoes c l).length ≤ l.length + 1 := by
  cases c with
  | made n f => exact rput_len _ _
  | taken n => exact Nat.le_trans (del_len _ _) (Nat.le_succ _)
  | moved n to =>
    show (match Dir.find n l with | some f => rput (to, f) (Dir.del n l) | none => l).length ≤ _
    split
    · exact Nat.le_trans (rput_len _ _) (Nat.succ_le_succ (del_len _ _))
    · exact Nat.le_succ _
theorem rredo_len : ∀ (cs : List Ch) (l : Dir), (rredo cs l).length ≤ l.length + cs.length
  | [], l => Nat.le_refl _
  | c :: cs, l => by
    have h1 := rredo_len cs (rdoes c l)
    have h2 := rdoes_len c l
    show (rredo cs (rdoes c l)).length ≤ _
    simp only [List.length_cons]
    omega
end Go.Proofs.YtdkpbphgaenlnaaGreat

/-
  The document's disk: Boot.
-/
namespace Go.Proofs.YtdkpbphgaenlnaaGreat
open Go.RowKit
set_option linter.unusedVariables false
set_option linter.unusedSimpArgs false
theorem rredo_more {cs : List Ch} {l : Dir} {j : Nat} {p : Ch} (h : cs[j]? = some p) : rredo (cs.take (j + 1)) l = rdoes p (rredo (cs.take j) l) := by
  unfold rredo
  rw [List.take_add_one, h, List.foldl_append]
  rfl
theorem take_dirs {cs : List Ch} {j pl : Nat} {x : Int} (hl : cs.length = pl) (hj : j ≤ pl) (h0 : j = 0 ∨ (j : Int) ≤ x) (h : j = pl ∨ x ≤ (j : Int)) : cs.take x.toNat = cs.take j := by
  by_cases hx : x.toNat = j
  · rw [hx]
  · have hjp : j = pl := by omega
    rw [List.take_of_length_le (by omega), List.take_of_length_le (by omega)]
/-- Names that are done again: a row of the disk's own, or a new one. -/
def BootN (w0 : World) (kv : Value) (l : Dir) (w : World) (L : Option Addr) (q c : Nat) : Prop :=
  l.length = q ∧ w.ownsRow 0 102 2 (.slice L q c) q (l.flatMap enC) ∧ (∀ k, (Value.slice L q c).ownBlock = some k → kv.ownBlock = some k ∨ w0.heap.size ≤ k) ∧ Grows w0 w
section
variable {w w' : World} {r : Nat} {own : Nat → Prop} {m m' : Rf} {fv nv kv pv fv' nv' kv' pv' : Value}
theorem BootN.next {w0 wr w2 : World} {kv : Value} {l : Dir} {L : Option Addr} {q c : Nat} {p : Ch} {e : Ending} (h : BootN w0 kv l wr L q c) (hd : RDoTo wr (.slice L q c) (rdoes p l) e w2) :
    ∃ L2 q2 c2, e = .returned (.slice L2 q2 c2) ∧ BootN w0 kv (rdoes p l) w2 L2 q2 c2 := by
  obtain ⟨v, rfl, hr, hk, hg⟩ := hd
  obtain ⟨A, c2, rfl⟩ := slice_own2 hr
  exact ⟨A, _, c2, rfl, rfl, hr, fun k hk' => (hk k hk').elim (h.2.2.1 k) fun e => .inr (Nat.le_trans h.2.2.2.size e), h.2.2.2.trans hg⟩
/-- Files of which the first j have lost what was not kept. -/
def lostTo (l : List Int) (fs : List Fl) (j : Nat) : List Fl := fs.mapIdx fun i f => if i < j then f.lose (more l i) else f
theorem lostTo_len (l : List Int) (fs : List Fl) (j : Nat) : (lostTo l fs j).length = fs.length := by unfold lostTo; rw [List.length_mapIdx]
theorem lostTo_zero (l : List Int) (fs : List Fl) : lostTo l fs 0 = fs := by
  unfold lostTo
  apply List.ext_getElem?
  intro i
  rw [List.getElem?_mapIdx]
  cases fs[i]? <;> simp
theorem lostTo_end (l : List Int) (fs : List Fl) : lostTo l fs fs.length = fs.mapIdx fun i f => f.lose (more l i) := by
  unfold lostTo
  apply List.ext_getElem?
  intro i
  rw [List.getElem?_mapIdx, List.getElem?_mapIdx]
  by_cases h : i < fs.length
  · rw [List.getElem?_eq_getElem h]; simp [h]
  · rw [List.getElem?_eq_none (by omega)]; rfl
theorem lostTo_get {l : List Int} {fs : List Fl} {j : Nat} {v : Fl} (h : fs[j]? = some v) : (lostTo l fs j)[j]? = some v := by
  unfold lostTo
  rw [List.getElem?_mapIdx, h]
  simp
theorem lostTo_next {l : List Int} {fs : List Fl} {j : Nat} {v : Fl} (h : fs[j]? = some v) : (lostTo l fs j).set j (v.lose (more l j)) = lostTo l fs (j + 1) := by
  have hj : j < fs.length := (List.getElem?_eq_some_iff.1 h).1
  apply List.ext_getElem?
  intro i
  rw [List.getElem?_set, lostTo_len]
  unfold lostTo
  rw [List.getElem?_mapIdx, List.getElem?_mapIdx]
  by_cases hij : j = i
  · subst hij
    rw [if_pos rfl, if_pos hj, h]
    simp
  · rw [if_neg hij]
    cases fs[i]? with
    | none => rfl
    | some u =>
      simp only [Option.map_some]
      by_cases h1 : i < j
      · rw [if_pos h1, if_pos (by omega)]
      · rw [if_neg h1, if_neg (by omega)]
theorem RfAt.booted {wl : World} {N : Dir} {fs : List Fl} (h : RfAt w r own m fv nv kv pv) (hg : Grows w wl) (h1 : wl.ownsRow 0 97 2 fv' fs.length (fs.flatMap flC)) (o1 : ∀ k, fv'.ownBlock = some k → w.heap.size ≤ k)
    (h2 : wl.ownsRow 0 102 2 nv' N.length (N.flatMap enC)) (o2 : ∀ k, nv'.ownBlock = some k → kv.ownBlock = some k ∨ w.heap.size ≤ k) :
    RfTo w r own (((((((wl.setCell ⟨r, 1, none⟩ fv').setCell ⟨r, 2, none⟩ nv').setCell ⟨r, 3, none⟩ nv').setCell ⟨r, 4, none⟩ (.slice none 0 0)).setCell ⟨r, 6, none⟩ (.int .i64 (-1))).setCell ⟨r, 7, none⟩ (.int .i64 (-1))).setCell ⟨r, 8, none⟩ (.bool false))
      { m with files := fs, names := N, kept := N, pend := [], fail := -1, cut := -1, down := false } := by
  have h' := h.grow hg
  have ha : RfAt wl r (fun k => own k ∨ (w.heap.size ≤ k ∧ k < wl.heap.size)) m fv nv kv pv := ⟨h'.top, .inl h'.ro, fun k hk => hk.elim (h'.lt k) fun e => e.2, h'.files, fun k e => .inl (h'.fo k e), h'.names, fun k e => .inl (h'.no k e), h'.kept, fun k e => .inl (h'.ko k e), h'.pend, fun k e => .inl (h'.po k e)⟩
  have hs : Spares (fun k => k = r) wl (((((((wl.setCell ⟨r, 1, none⟩ fv').setCell ⟨r, 2, none⟩ nv').setCell ⟨r, 3, none⟩ nv').setCell ⟨r, 4, none⟩ (.slice none 0 0)).setCell ⟨r, 6, none⟩ (.int .i64 (-1))).setCell ⟨r, 7, none⟩ (.int .i64 (-1))).setCell ⟨r, 8, none⟩ (.bool false)) :=
    (((((((Spares.refl (fun k => k = r) wl).setCell (p := ⟨r, 1, none⟩) rfl _).setCell (p := ⟨r, 2, none⟩) rfl _).setCell (p := ⟨r, 3, none⟩) rfl _).setCell (p := ⟨r, 4, none⟩) rfl _).setCell (p := ⟨r, 6, none⟩) rfl _).setCell (p := ⟨r, 7, none⟩) rfl _).setCell (p := ⟨r, 8, none⟩) rfl _
  have t1 : Whole _ r 77 (rCells m fv' nv kv pv) := ha.top.put 1 fv'
  have t2 : Whole _ r 77 (rCells m fv' nv' kv pv) := t1.put 2 nv'
  have t3 : Whole _ r 77 (rCells m fv' nv' nv' pv) := t2.put 3 nv'
  have t4 : Whole _ r 77 (rCells m fv' nv' nv' (.slice none 0 0)) := t3.put 4 (.slice none 0 0)
  have t6 : Whole _ r 77 (rCells { m with fail := -1 } fv' nv' nv' (.slice none 0 0)) := t4.put 6 (.int .i64 (-1))
  have t7 : Whole _ r 77 (rCells { m with fail := -1, cut := -1 } fv' nv' nv' (.slice none 0 0)) := t6.put 7 (.int .i64 (-1))
  have ht : Whole _ r 77 (rCells { m with files := fs, names := N, kept := N, pend := [], fail := -1, cut := -1, down := false } fv' nv' nv' (.slice none 0 0)) := t7.put 8 (.bool false)
  have ob2 : ∀ k, nv'.ownBlock = some k → own k ∨ (w.heap.size ≤ k ∧ k < wl.heap.size) := fun k hk => (o2 k hk).elim (fun e => .inl (h.ko k e)) fun e => .inr ⟨e, (h2.lt k hk).2⟩
  refine ⟨_, fv', nv', nv', .slice none 0 0, ha.retop (m' := { m with files := fs, names := N, kept := N, pend := [], fail := -1, cut := -1, down := false }) hs ht h1 (fun k hk => .inr ⟨o1 k hk, (h1.lt k hk).2⟩) h2 ob2 h2 ob2 ⟨rfl, .inl ⟨rfl, rfl⟩⟩ (fun k hk => (by cases hk)), (Spares.grows hg).trans (hs.wider fun k _ e => e ▸ h.ro), fun k hk => hk.imp id fun e => e.1⟩
set_option maxHeartbeats 4000000 in
set_option maxRecDepth 100000 in
theorem rboot_any (w : World) (x : Int) (l : List Int) {A3 : Option Addr} {ln c3 : Nat} (h : RfAt w r own m fv nv kv pv) (hF : RfFit m) (hsum : m.kept.length + m.pend.length ≤ 100000) (hI : Ints w A3 ln c3 l) (hlb : ∀ x ∈ l, -9223372036854775808 ≤ x ∧ x ≤ 9223372036854775807) :
    Calls Tryz.prog 16 #[.pointer (some ⟨r, 0, none⟩), .int .i64 x, .slice A3 ln c3] w fun e w' => e = .returned (.tuple #[]) ∧ RfTo w r own w' (m.boot x l) := by
  obtain ⟨KA, kc, hKA⟩ := slice_own2 h.kept
  obtain ⟨PA, pc, hPA⟩ := slice_own2 h.pend
  have HPW := Lib.hid (Rw.owned chL rfl (hPA ▸ h.pend))
  have HC := Lib.hid (show ∀ w', Grows w w' → w'.cell? ⟨r, 3, none⟩ = some (.slice KA m.kept.length kc) ∧ w'.cell? ⟨r, 4, none⟩ = some (.slice PA m.pend.length pc) from fun w' hg => ⟨hKA ▸ (h.grow hg).cell 3, hPA ▸ (h.grow hg).cell 4⟩)
  have HK := Lib.hid (show BootN w kv (rredo (m.pend.take 0) m.kept) w KA m.kept.length kc from ⟨rfl, hKA ▸ h.kept, fun k hk => .inl (hKA ▸ hk), Grows.refl _⟩)
  have H := Lib.hid h
  have HF := Lib.hid (And.intro hF hsum)
  have HI := Lib.hid (And.intro hI hlb)
  obtain ⟨i1, hi1, hz1, hy1, hb1⟩ := info_parts infoFl
  have HI1 := Lib.hid (And.intro hi1 (And.intro hz1 (And.intro hy1 hb1)))
  obtain ⟨FA, fc, hFA⟩ := slice_own2 h.files
  have HRW0 := Lib.hid (show ∀ w', Grows w w' → (Row w' w'.heap.size FA (2 * m.files.length) (m.files.flatMap flC) ∧ (FA = none → fc = 0)) ∧ w'.cell? ⟨r, 1, none⟩ = some (.slice FA m.files.length fc) from fun w' hg => ⟨Row.ownedK (hFA ▸ (h.grow hg).files), hFA ▸ (h.grow hg).cell 1⟩)
  obtain ⟨fl, hfl⟩ : ∃ fl, m.files.length = fl := ⟨_, rfl⟩
  have HFL := Lib.hid hfl
  rw [hfl] at HRW0
  have hfl1 : fl ≤ 100000 := hfl ▸ hF.files
  clear hi1 hz1 hy1 hb1 hFA hfl hI hlb
  obtain ⟨pl, hpl⟩ : ∃ pl, m.pend.length = pl := ⟨_, rfl⟩
  obtain ⟨kl, hkl⟩ : ∃ kl, m.kept.length = kl := ⟨_, rfl⟩
  have HPL := Lib.hid (And.intro hpl hkl)
  rw [hpl, hkl] at HC
  rw [hpl] at HPW
  rw [hkl] at HK
  rw [hpl, hkl] at hsum
  obtain ⟨c3w, c4w⟩ := HC.out w (Grows.refl _)
  clear h hF hKA hPA hpl hkl c4w
  go_enter Tryz.func16, Tryz.ntmps16
  go_wp2_with (fail)
  go_loopw [6, 7] (fun vs vi wr => ∃ (j q : Nat) (L : Option Addr) (lc : Nat), j ≤ pl ∧ vs = .slice L q lc ∧ vi = .int .i64 (j : Nat) ∧ Hid (j = 0 ∨ (j : Int) ≤ x) ∧ Hid (BootN w kv (rredo (m.pend.take j) m.kept) wr L q lc)) (fun _ i _ => pl - (intOf i).toNat)
  case atStart => exact ⟨0, _, _, _, Nat.zero_le _, rfl, rfl, Lib.hid (.inl rfl), HK⟩
  case round =>
    obtain ⟨j, q, L, lc, hj, rfl, rfl, HJ, HB⟩ := hrel
    have hg := HB.out.2.2.2
    obtain ⟨c3r, c4r⟩ := HC.out wr hg
    have hwj : IntKind.i64.wrap ((j : Int) + 1) = (j : Int) + 1 := IntWalk.i64_in _ (by omega)
    by_cases hlt : j < pl
    · have hjI : (j : Int) < (pl : Int) := by omega
      have hj0 : (0 : Int) ≤ (j : Int) := by omega
      by_cases hx : (j : Int) < x
      · obtain ⟨p, hp⟩ : ∃ p, m.pend[j]? = some p := ⟨_, List.getElem?_eq_getElem (by rw [HPL.out.1]; exact hlt)⟩
        obtain ⟨g, hA2, hgl, hc⟩ := HPW.out.spot j p hp
        subst hA2
        have hrr := rredo_more (l := m.kept) hp
        have hq : q ≤ 100000 := by
          have h1 := rredo_len (m.pend.take j) m.kept
          have h2 : (m.pend.take j).length ≤ m.pend.length := by rw [List.length_take]; exact Nat.min_le_right _ _
          have h3 := HB.out.1
          have h4 := HF.out.2
          omega
        have hcell : ∀ i u, i < 4 → (chC p)[i]? = some u → wr.cell? ⟨g, j * 4 + i, none⟩ = some u := fun i u hi hu => (hg.cell (show (⟨g, j * 4 + i, none⟩ : Addr).block < w.heap.size from hgl)).trans ((hc i hi).trans hu)
        have HDO := Lib.hid (rdoes_any wr (A := L) (c := lc) p HB.out.2.1 HB.out.1 hq)
        have HLT := Lib.hid (And.intro hlt hx)
        have HRR := Lib.hid hrr
        clear hp hc hq hg c3r hrr
        cases p with
        | made y f =>
          have d0 : wr.cell? { block := g, off := j * 4 } = some (.int .i64 1) := hcell 0 (.int .i64 1) (by omega) rfl
          have d1 : wr.cell? { block := g, off := j * 4 + 1 } = some (.string ⟨y.toArray⟩) := hcell 1 (.string ⟨y.toArray⟩) (by omega) rfl
          have d2 : wr.cell? { block := g, off := j * 4 + 2 } = some (.string ⟨#[]⟩) := hcell 2 (.string ⟨#[]⟩) (by omega) rfl
          have d3 : wr.cell? { block := g, off := j * 4 + 3 } = some (.int .i64 (f : Int)) := hcell 3 (.int .i64 (f : Int)) (by omega) rfl
          have HD2 := Lib.hid (show Calls Tryz.prog 62 #[.slice L q lc, .agg #[.int .i64 1, .string ⟨y.toArray⟩, .string ⟨#[]⟩, .int .i64 (f : Int)]] wr fun e w' => RDoTo wr (.slice L q lc) (rdoes (.made y f) (rredo (m.pend.take j) m.kept)) e w' from HDO.out)
          clear hcell HDO
          go_wp2_with (fail)
          refine HD2.out.mono ?_
          intro e w2 hdo
          obtain ⟨L2, q2, c2, rfl, hb2⟩ := HB.out.next hdo
          have HB2 := Lib.hid (HRR.out.symm ▸ hb2)
          clear hdo hb2
          go_wp2_with (fail)
          exact ⟨⟨j + 1, q2, L2, c2, HLT.out.1, rfl, rfl, Lib.hid (.inr (by have := HLT.out.2; omega)), HB2⟩, less_one8 HLT.out.1⟩
        | moved y z =>
          have d0 : wr.cell? { block := g, off := j * 4 } = some (.int .i64 2) := hcell 0 (.int .i64 2) (by omega) rfl
          have d1 : wr.cell? { block := g, off := j * 4 + 1 } = some (.string ⟨y.toArray⟩) := hcell 1 (.string ⟨y.toArray⟩) (by omega) rfl
          have d2 : wr.cell? { block := g, off := j * 4 + 2 } = some (.string ⟨z.toArray⟩) := hcell 2 (.string ⟨z.toArray⟩) (by omega) rfl
          have d3 : wr.cell? { block := g, off := j * 4 + 3 } = some (.int .i64 0) := hcell 3 (.int .i64 0) (by omega) rfl
          have HD2 := Lib.hid (show Calls Tryz.prog 62 #[.slice L q lc, .agg #[.int .i64 2, .string ⟨y.toArray⟩, .string ⟨z.toArray⟩, .int .i64 0]] wr fun e w' => RDoTo wr (.slice L q lc) (rdoes (.moved y z) (rredo (m.pend.take j) m.kept)) e w' from HDO.out)
          clear hcell HDO
          go_wp2_with (fail)
          refine HD2.out.mono ?_
          intro e w2 hdo
          obtain ⟨L2, q2, c2, rfl, hb2⟩ := HB.out.next hdo
          have HB2 := Lib.hid (HRR.out.symm ▸ hb2)
          clear hdo hb2
          go_wp2_with (fail)
          exact ⟨⟨j + 1, q2, L2, c2, HLT.out.1, rfl, rfl, Lib.hid (.inr (by have := HLT.out.2; omega)), HB2⟩, less_one8 HLT.out.1⟩
        | taken y =>
          have d0 : wr.cell? { block := g, off := j * 4 } = some (.int .i64 3) := hcell 0 (.int .i64 3) (by omega) rfl
          have d1 : wr.cell? { block := g, off := j * 4 + 1 } = some (.string ⟨y.toArray⟩) := hcell 1 (.string ⟨y.toArray⟩) (by omega) rfl
          have d2 : wr.cell? { block := g, off := j * 4 + 2 } = some (.string ⟨#[]⟩) := hcell 2 (.string ⟨#[]⟩) (by omega) rfl
          have d3 : wr.cell? { block := g, off := j * 4 + 3 } = some (.int .i64 0) := hcell 3 (.int .i64 0) (by omega) rfl
          have HD2 := Lib.hid (show Calls Tryz.prog 62 #[.slice L q lc, .agg #[.int .i64 3, .string ⟨y.toArray⟩, .string ⟨#[]⟩, .int .i64 0]] wr fun e w' => RDoTo wr (.slice L q lc) (rdoes (.taken y) (rredo (m.pend.take j) m.kept)) e w' from HDO.out)
          clear hcell HDO
          go_wp2_with (fail)
          refine HD2.out.mono ?_
          intro e w2 hdo
          obtain ⟨L2, q2, c2, rfl, hb2⟩ := HB.out.next hdo
          have HB2 := Lib.hid (HRR.out.symm ▸ hb2)
          clear hdo hb2
          go_wp2_with (fail)
          exact ⟨⟨j + 1, q2, L2, c2, HLT.out.1, rfl, rfl, Lib.hid (.inr (by have := HLT.out.2; omega)), HB2⟩, less_one8 HLT.out.1⟩
      · have HBN := Lib.hid (show BootN w kv (rredo (m.pend.take x.toNat) m.kept) wr L q lc from (take_dirs HPL.out.1 hj HJ.out (.inr (by omega))).symm ▸ HB.out)
        obtain ⟨W1, hW1⟩ : ∃ W1, wr.alloc (.cells #[] 97) = W1 := ⟨_, rfl⟩
        have HG1 := Lib.hid (show Grows wr W1 from hW1 ▸ grows_alloc _ _)
        have HO1 := Lib.hid (show W1.ownsRow wr.heap.size 97 2 (.slice (some ⟨wr.heap.size, 0, none⟩) 0 0) 0 [] from hW1 ▸ World.ownsRow_lit (size := 2) (e := 97) (base := wr.heap.size) wr #[] 0 (Nat.le_refl _) (Nat.zero_le _) rfl)
        have hrw := HRW0.out W1 (hg.trans HG1.out)
        have c1r := hrw.2
        have HRW := Lib.hid hrw.1
        clear hrw HB HJ hg c3r
        go_wp2_with (first
          | (at_builtin
             refine list_append_at rfl (.tmp 40) (.tmp 44) 73 rfl wr.heap.size 97 i1 (.agg #[.string ⟨#[]⟩, .int .i64 0]) 2 24 Tryz.underlying73 HI1.out.1 HI1.out.2.1 HI1.out.2.2.1 HI1.out.2.2.2 rfl (by decide) rfl
               HO1.out rfl HRW.out.1 HRW.out.2 (fun u hu => by obtain ⟨q, _, hq⟩ := List.mem_flatMap.1 hu; exact flC_one q u hq) fl (Nat.zero_add _) (by unfold maxLen; omega) (by omega) HG1.out.size ?_
             intro LB ld w5 hr5 hg5 hat5
             have HR5 := Lib.hid (show w5.ownsRow wr.heap.size 97 2 (.slice LB fl ld) fl ((lostTo l m.files 0).flatMap flC) from by rw [lostTo_zero]; exact hr5)
             have HG5 := Lib.hid (show Grows wr w5 from Below.grown HG1.out hg5 HG1.out.size fun q hq => (HO1.out.lt q hq).1)
             clear hr5 hg5 hat5))
        go_loopw [9] (fun vi wl => ∃ (j : Nat), j ≤ fl ∧ vi = .int .i64 (j : Nat) ∧ Hid (wl.ownsRow wr.heap.size 97 2 (.slice LB fl ld) fl ((lostTo l m.files j).flatMap flC)) ∧ Hid (Grows wr wl)) (fun i _ => fl - (intOf i).toNat)
        case atStart => exact ⟨0, Nat.zero_le _, rfl, HR5, HG5⟩
        case round =>
          obtain ⟨y, hy, rfl, HRy, HGy⟩ := hrel
          have hwy : IntKind.i64.wrap ((y : Int) + 1) = (y : Int) + 1 := IntWalk.i64_in _ (by omega)
          by_cases hyl : y < fl
          · obtain ⟨v, hv⟩ : ∃ v, m.files[y]? = some v := ⟨_, List.getElem?_eq_getElem (by rw [HFL.out]; exact hyl)⟩
            obtain ⟨g, cap, hvv, hgb, hglt⟩ := HRy.out.form (by omega)
            injection hvv with hv1 _ hv2
            subst hv1 hv2
            have hv' := lostTo_get (l := l) hv
            have y0 : wr.cell? { block := g, off := y * 2 } = some (.string ⟨v.bytes.toArray⟩) := (HRy.out.cellAt (y * 2) (by omega)).trans (flat_get flL _ y 0 _ hv' (by omega))
            have y1 : wr.cell? { block := g, off := y * 2 + 1 } = some (.int .i64 (v.kept : Int)) := (HRy.out.cellAt (y * 2 + 1) (by omega)).trans (flat_get flL _ y 1 _ hv' (by omega))
            have p0 : wr.frozen? { block := g, off := y * 2 } = false := HRy.out.frozenAt _
            have p1 : wr.frozen? { block := g, off := y * 2 + 1 } = false := HRy.out.frozenAt _
            have hbb := HF.out.1.bytes v (List.mem_of_getElem? hv)
            obtain ⟨kp, hkp⟩ : ∃ kp, v.kept = kp := ⟨_, rfl⟩
            obtain ⟨vl, hvl⟩ : ∃ vl, v.bytes.length = vl := ⟨_, rfl⟩
            obtain ⟨sb, hsb⟩ : ∃ s : ByteArray, (⟨v.bytes.toArray⟩ : ByteArray) = s := ⟨_, rfl⟩
            have hss : sb.size = vl := by rw [← hsb, ← hvl]; simp [ByteArray.size]
            obtain ⟨n1, hn1⟩ : ∃ n1, (v.lose (more l y)).kept = n1 := ⟨_, rfl⟩
            obtain ⟨M, hM⟩ : ∃ M, max (more l y) 0 = M := ⟨_, rfl⟩
            have hn1' : kp + (min M ((vl : Int) - kp)).toNat = n1 := by rw [← hn1, ← hkp, ← hvl, ← hM]; rfl
            rw [hkp] at y1
            rw [hsb] at y0
            rw [hkp, hvl] at hbb
            have hw1 : IntKind.i64.wrap ((vl : Int) - (kp : Int)) = (vl : Int) - kp := IntWalk.i64_in _ (by omega)
            have hyI : (y : Int) < (fl : Int) := by omega
            have hy0 : (0 : Int) ≤ (y : Int) := by omega
            have HV := Lib.hid (And.intro hv (And.intro hkp (And.intro hvl (And.intro hsb hn1))))
            have HYL := Lib.hid hyl
            have hgs : g < wr.heap.size := hglt
            have hne : ¬ g = wr.heap.size := by omega
            have hlw := lostTo_next (l := l) hv
            have hex : (⟨(v.lose (more l y)).bytes.toArray⟩ : ByteArray) = sb.extract 0 n1 := by
              rw [← hsb, ← hn1]
              show (⟨(v.bytes.take (v.lose (more l y)).kept).toArray⟩ : ByteArray) = _
              apply ByteArray.ext
              simp [ByteArray.data_extract]
            have q2 := (HRy.out.stored (y * 2) (.string ⟨(v.lose (more l y)).bytes.toArray⟩)).1
            have q3 := (q2.stored (y * 2 + 1) (.int .i64 ((v.lose (more l y)).kept : Int))).1
            rw [flat_set2 _ _ y (by rw [lostTo_len, HFL.out]; exact hyl), hlw, hex, hn1] at q3
            have HRN := Lib.hid (owned_grow q3 (grows_alloc _ (.cells #[.string sb, .int .i64 (kp : Int)] 97)))
            have hgn := (HGy.out.setCell (p := { block := g, off := y * 2 }) hgb (.string (sb.extract 0 n1))).setCell (p := { block := g, off := y * 2 + 1 }) hgb (.int .i64 (n1 : Int))
            have HGN := Lib.hid (Grows.trans hgn (grows_alloc _ (.cells #[.string sb, .int .i64 (kp : Int)] 97)))
            clear hgn
            have hb1 : n1 ≤ vl := by omega
            have hb2 : (n1 : Int) ≤ (vl : Int) := by omega
            have hb3 : (0 : Int) ≤ (n1 : Int) := by omega
            have hms : IntKind.i64.wrap ((kp : Int) + min M ((vl : Int) - kp)) = (n1 : Int) := by rw [IntWalk.i64_in _ (by omega)]; omega
            clear hlw hex q2 q3 hv' hvl hkp hsb hn1 hn1'
            rcases Nat.eq_zero_or_pos ln with hz | hz
            · subst hz
              have hl0 : l = [] := List.eq_nil_of_length_eq_zero HI.out.1.len
              have hM0 : M = 0 := by rw [← hM, hl0]; rfl
              rw [hM0] at hms
              clear hv hM hbb hl0 hM0 c1r hW1 hglt hgb
              go_wp2_with (fail)
              exact ⟨⟨y + 1, HYL.out, rfl, HRN, HGN⟩, less_one8 HYL.out⟩
            · obtain ⟨ad, xx, rfl, hx1, hx2, hx3⟩ := (HI.out.1.grow (HBN.out.2.2.2.trans HGy.out)).get (j := y % ln) (Nat.mod_lt _ hz)
              have em : more l y = xx := by
                unfold more
                rw [if_neg (by rw [HI.out.1.len]; omega), HI.out.1.len, List.getD_eq_getElem?_getD, hx2]
                rfl
              rw [em] at hM
              rw [← hM] at hms
              have r1 : (y : Int).tmod (ln : Int) = ((y % ln : Nat) : Int) := by
                rw [Int.tmod_eq_emod_of_nonneg (by omega)]
                rfl
              have r2 : ((y % ln : Nat) : Int) < (ln : Int) := by have := Nat.mod_lt y hz; omega
              have r3 : (0 : Int) ≤ ((y % ln : Nat) : Int) := by omega
              have z1 : (0 : Int) < (ln : Int) := by omega
              have z2 : ((ln : Int) == 0) = false := by rw [beq_eq_false_iff_ne]; omega
              have z3 : ¬ (ln : Int) = 0 := by omega
              have r4 : IntKind.i64.wrap ((y % ln : Nat) : Int) = ((y % ln : Nat) : Int) := IntWalk.i64_in _ (by have := Nat.mod_le y ln; omega)
              generalize hq : y % ln = qq at *
              have HQ := Lib.hid hq
              clear hv hM hbb em c1r hW1 hglt hgb hx2 hx3 hq hz
              go_wp2_with (fail)
              exact ⟨⟨y + 1, HYL.out, rfl, HRN, HGN⟩, less_one8 HYL.out⟩
          · obtain rfl : y = fl := by omega
            have HTO := Lib.hid (H.out.booted (HBN.out.2.2.2.trans HGy.out) (fs := m.files.mapIdx fun i f => f.lose (more l i)) (N := rredo (m.pend.take x.toNat) m.kept) (fv' := .slice LB y ld) (nv' := .slice L q lc) (by rw [List.length_mapIdx, HFL.out, ← lostTo_end, HFL.out]; exact owned_from HRy.out (Nat.zero_le _)) (fun k hk => Nat.le_trans HBN.out.2.2.2.size (HRy.out.lt k hk).1) (by rw [HBN.out.1]; exact owned_grow HBN.out.2.1 HGy.out) HBN.out.2.2.1)
            have htop := (H.out.grow (HBN.out.2.2.2.trans HGy.out)).top
            have s1 : wr.cell? { block := r, off := 1 } = some fv := htop.cell 1
            have s2 : wr.cell? { block := r, off := 2 } = some nv := htop.cell 2
            have s3 : wr.cell? { block := r, off := 3 } = some kv := htop.cell 3
            have s4 : wr.cell? { block := r, off := 4 } = some pv := htop.cell 4
            have s6 : wr.cell? { block := r, off := 6 } = some (.int .i64 m.fail) := htop.cell 6
            have s7 : wr.cell? { block := r, off := 7 } = some (.int .i64 m.cut) := htop.cell 7
            have s8 : wr.cell? { block := r, off := 8 } = some (.bool m.down) := htop.cell 8
            have g1 : wr.frozen? { block := r, off := 1 } = false := htop.free 1
            have g2 : wr.frozen? { block := r, off := 2 } = false := htop.free 2
            have g3 : wr.frozen? { block := r, off := 3 } = false := htop.free 3
            have g4 : wr.frozen? { block := r, off := 4 } = false := htop.free 4
            have g6 : wr.frozen? { block := r, off := 6 } = false := htop.free 6
            have g7 : wr.frozen? { block := r, off := 7 } = false := htop.free 7
            have g8 : wr.frozen? { block := r, off := 8 } = false := htop.free 8
            clear htop c1r hW1
            go_wp2_with (fail)
            go_end0
            exact ⟨rfl, HTO.out⟩
    · obtain rfl : j = pl := by omega
      have HBN := Lib.hid (show BootN w kv (rredo (m.pend.take x.toNat) m.kept) wr L q lc from (take_dirs HPL.out.1 hj HJ.out (.inl rfl)).symm ▸ HB.out)
      obtain ⟨W1, hW1⟩ : ∃ W1, wr.alloc (.cells #[] 97) = W1 := ⟨_, rfl⟩
      have HG1 := Lib.hid (show Grows wr W1 from hW1 ▸ grows_alloc _ _)
      have HO1 := Lib.hid (show W1.ownsRow wr.heap.size 97 2 (.slice (some ⟨wr.heap.size, 0, none⟩) 0 0) 0 [] from hW1 ▸ World.ownsRow_lit (size := 2) (e := 97) (base := wr.heap.size) wr #[] 0 (Nat.le_refl _) (Nat.zero_le _) rfl)
      have hrw := HRW0.out W1 (hg.trans HG1.out)
      have c1r := hrw.2
      have HRW := Lib.hid hrw.1
      clear hrw HB HJ hg c3r
      go_wp2_with (first
        | (at_builtin
           refine list_append_at rfl (.tmp 40) (.tmp 44) 73 rfl wr.heap.size 97 i1 (.agg #[.string ⟨#[]⟩, .int .i64 0]) 2 24 Tryz.underlying73 HI1.out.1 HI1.out.2.1 HI1.out.2.2.1 HI1.out.2.2.2 rfl (by decide) rfl
             HO1.out rfl HRW.out.1 HRW.out.2 (fun u hu => by obtain ⟨q, _, hq⟩ := List.mem_flatMap.1 hu; exact flC_one q u hq) fl (Nat.zero_add _) (by unfold maxLen; omega) (by omega) HG1.out.size ?_
           intro LB ld w5 hr5 hg5 hat5
           have HR5 := Lib.hid (show w5.ownsRow wr.heap.size 97 2 (.slice LB fl ld) fl ((lostTo l m.files 0).flatMap flC) from by rw [lostTo_zero]; exact hr5)
           have HG5 := Lib.hid (show Grows wr w5 from Below.grown HG1.out hg5 HG1.out.size fun q hq => (HO1.out.lt q hq).1)
           clear hr5 hg5 hat5))
      go_loopw [9] (fun vi wl => ∃ (j : Nat), j ≤ fl ∧ vi = .int .i64 (j : Nat) ∧ Hid (wl.ownsRow wr.heap.size 97 2 (.slice LB fl ld) fl ((lostTo l m.files j).flatMap flC)) ∧ Hid (Grows wr wl)) (fun i _ => fl - (intOf i).toNat)
      case atStart => exact ⟨0, Nat.zero_le _, rfl, HR5, HG5⟩
      case round =>
        obtain ⟨y, hy, rfl, HRy, HGy⟩ := hrel
        have hwy : IntKind.i64.wrap ((y : Int) + 1) = (y : Int) + 1 := IntWalk.i64_in _ (by omega)
        by_cases hyl : y < fl
        · obtain ⟨v, hv⟩ : ∃ v, m.files[y]? = some v := ⟨_, List.getElem?_eq_getElem (by rw [HFL.out]; exact hyl)⟩
          obtain ⟨g, cap, hvv, hgb, hglt⟩ := HRy.out.form (by omega)
          injection hvv with hv1 _ hv2
          subst hv1 hv2
          have hv' := lostTo_get (l := l) hv
          have y0 : wr.cell? { block := g, off := y * 2 } = some (.string ⟨v.bytes.toArray⟩) := (HRy.out.cellAt (y * 2) (by omega)).trans (flat_get flL _ y 0 _ hv' (by omega))
          have y1 : wr.cell? { block := g, off := y * 2 + 1 } = some (.int .i64 (v.kept : Int)) := (HRy.out.cellAt (y * 2 + 1) (by omega)).trans (flat_get flL _ y 1 _ hv' (by omega))
          have p0 : wr.frozen? { block := g, off := y * 2 } = false := HRy.out.frozenAt _
          have p1 : wr.frozen? { block := g, off := y * 2 + 1 } = false := HRy.out.frozenAt _
          have hbb := HF.out.1.bytes v (List.mem_of_getElem? hv)
          obtain ⟨kp, hkp⟩ : ∃ kp, v.kept = kp := ⟨_, rfl⟩
          obtain ⟨vl, hvl⟩ : ∃ vl, v.bytes.length = vl := ⟨_, rfl⟩
          obtain ⟨sb, hsb⟩ : ∃ s : ByteArray, (⟨v.bytes.toArray⟩ : ByteArray) = s := ⟨_, rfl⟩
          have hss : sb.size = vl := by rw [← hsb, ← hvl]; simp [ByteArray.size]
          obtain ⟨n1, hn1⟩ : ∃ n1, (v.lose (more l y)).kept = n1 := ⟨_, rfl⟩
          obtain ⟨M, hM⟩ : ∃ M, max (more l y) 0 = M := ⟨_, rfl⟩
          have hn1' : kp + (min M ((vl : Int) - kp)).toNat = n1 := by rw [← hn1, ← hkp, ← hvl, ← hM]; rfl
          rw [hkp] at y1
          rw [hsb] at y0
          rw [hkp, hvl] at hbb
          have hw1 : IntKind.i64.wrap ((vl : Int) - (kp : Int)) = (vl : Int) - kp := IntWalk.i64_in _ (by omega)
          have hyI : (y : Int) < (fl : Int) := by omega
          have hy0 : (0 : Int) ≤ (y : Int) := by omega
          have HV := Lib.hid (And.intro hv (And.intro hkp (And.intro hvl (And.intro hsb hn1))))
          have HYL := Lib.hid hyl
          have hgs : g < wr.heap.size := hglt
          have hne : ¬ g = wr.heap.size := by omega
          have hlw := lostTo_next (l := l) hv
          have hex : (⟨(v.lose (more l y)).bytes.toArray⟩ : ByteArray) = sb.extract 0 n1 := by
            rw [← hsb, ← hn1]
            show (⟨(v.bytes.take (v.lose (more l y)).kept).toArray⟩ : ByteArray) = _
            apply ByteArray.ext
            simp [ByteArray.data_extract]
          have q2 := (HRy.out.stored (y * 2) (.string ⟨(v.lose (more l y)).bytes.toArray⟩)).1
          have q3 := (q2.stored (y * 2 + 1) (.int .i64 ((v.lose (more l y)).kept : Int))).1
          rw [flat_set2 _ _ y (by rw [lostTo_len, HFL.out]; exact hyl), hlw, hex, hn1] at q3
          have HRN := Lib.hid (owned_grow q3 (grows_alloc _ (.cells #[.string sb, .int .i64 (kp : Int)] 97)))
          have hgn := (HGy.out.setCell (p := { block := g, off := y * 2 }) hgb (.string (sb.extract 0 n1))).setCell (p := { block := g, off := y * 2 + 1 }) hgb (.int .i64 (n1 : Int))
          have HGN := Lib.hid (Grows.trans hgn (grows_alloc _ (.cells #[.string sb, .int .i64 (kp : Int)] 97)))
          clear hgn
          have hb1 : n1 ≤ vl := by omega
          have hb2 : (n1 : Int) ≤ (vl : Int) := by omega
          have hb3 : (0 : Int) ≤ (n1 : Int) := by omega
          have hms : IntKind.i64.wrap ((kp : Int) + min M ((vl : Int) - kp)) = (n1 : Int) := by rw [IntWalk.i64_in _ (by omega)]; omega
          clear hlw hex q2 q3 hv' hvl hkp hsb hn1 hn1'
          rcases Nat.eq_zero_or_pos ln with hz | hz
          · subst hz
            have hl0 : l = [] := List.eq_nil_of_length_eq_zero HI.out.1.len
            have hM0 : M = 0 := by rw [← hM, hl0]; rfl
            rw [hM0] at hms
            clear hv hM hbb hl0 hM0 c1r hW1 hglt hgb
            go_wp2_with (fail)
            exact ⟨⟨y + 1, HYL.out, rfl, HRN, HGN⟩, less_one8 HYL.out⟩
          · obtain ⟨ad, xx, rfl, hx1, hx2, hx3⟩ := (HI.out.1.grow (HBN.out.2.2.2.trans HGy.out)).get (j := y % ln) (Nat.mod_lt _ hz)
            have em : more l y = xx := by
              unfold more
              rw [if_neg (by rw [HI.out.1.len]; omega), HI.out.1.len, List.getD_eq_getElem?_getD, hx2]
              rfl
            rw [em] at hM
            rw [← hM] at hms
            have r1 : (y : Int).tmod (ln : Int) = ((y % ln : Nat) : Int) := by
              rw [Int.tmod_eq_emod_of_nonneg (by omega)]
              rfl
            have r2 : ((y % ln : Nat) : Int) < (ln : Int) := by have := Nat.mod_lt y hz; omega
            have r3 : (0 : Int) ≤ ((y % ln : Nat) : Int) := by omega
            have z1 : (0 : Int) < (ln : Int) := by omega
            have z2 : ((ln : Int) == 0) = false := by rw [beq_eq_false_iff_ne]; omega
            have z3 : ¬ (ln : Int) = 0 := by omega
            have r4 : IntKind.i64.wrap ((y % ln : Nat) : Int) = ((y % ln : Nat) : Int) := IntWalk.i64_in _ (by have := Nat.mod_le y ln; omega)
            generalize hq : y % ln = qq at *
            have HQ := Lib.hid hq
            clear hv hM hbb em c1r hW1 hglt hgb hx2 hx3 hq hz
            go_wp2_with (fail)
            exact ⟨⟨y + 1, HYL.out, rfl, HRN, HGN⟩, less_one8 HYL.out⟩
        · obtain rfl : y = fl := by omega
          have HTO := Lib.hid (H.out.booted (HBN.out.2.2.2.trans HGy.out) (fs := m.files.mapIdx fun i f => f.lose (more l i)) (N := rredo (m.pend.take x.toNat) m.kept) (fv' := .slice LB y ld) (nv' := .slice L q lc) (by rw [List.length_mapIdx, HFL.out, ← lostTo_end, HFL.out]; exact owned_from HRy.out (Nat.zero_le _)) (fun k hk => Nat.le_trans HBN.out.2.2.2.size (HRy.out.lt k hk).1) (by rw [HBN.out.1]; exact owned_grow HBN.out.2.1 HGy.out) HBN.out.2.2.1)
          have htop := (H.out.grow (HBN.out.2.2.2.trans HGy.out)).top
          have s1 : wr.cell? { block := r, off := 1 } = some fv := htop.cell 1
          have s2 : wr.cell? { block := r, off := 2 } = some nv := htop.cell 2
          have s3 : wr.cell? { block := r, off := 3 } = some kv := htop.cell 3
          have s4 : wr.cell? { block := r, off := 4 } = some pv := htop.cell 4
          have s6 : wr.cell? { block := r, off := 6 } = some (.int .i64 m.fail) := htop.cell 6
          have s7 : wr.cell? { block := r, off := 7 } = some (.int .i64 m.cut) := htop.cell 7
          have s8 : wr.cell? { block := r, off := 8 } = some (.bool m.down) := htop.cell 8
          have g1 : wr.frozen? { block := r, off := 1 } = false := htop.free 1
          have g2 : wr.frozen? { block := r, off := 2 } = false := htop.free 2
          have g3 : wr.frozen? { block := r, off := 3 } = false := htop.free 3
          have g4 : wr.frozen? { block := r, off := 4 } = false := htop.free 4
          have g6 : wr.frozen? { block := r, off := 6 } = false := htop.free 6
          have g7 : wr.frozen? { block := r, off := 7 } = false := htop.free 7
          have g8 : wr.frozen? { block := r, off := 8 } = false := htop.free 8
          clear htop c1r hW1
          go_wp2_with (fail)
          go_end0
          exact ⟨rfl, HTO.out⟩
end
end Go.Proofs.YtdkpbphgaenlnaaGreat

/-
  Bits that turn one by one, plainly.
-/
namespace Go.Proofs.YtdkpbphgaenlnaaGreat
open Go.RowKit
set_option linter.unusedVariables false
set_option linter.unusedSimpArgs false
theorem turnAt_xor (a b q i : Nat) : turnAt (a ^^^ b) q i = turnAt a q i ^^^ turnAt b q i := by
  unfold turnAt
  split
  · rfl
  · rw [show (256 : Nat) ^ (i - q) = 2 ^ (8 * (i - q)) by rw [Nat.pow_mul], Nat.xor_div_two_pow, show (256 : Nat) = 2 ^ 8 by rfl, Nat.xor_mod_two_pow]
theorem flipT_xor (a b q : Nat) (bs : List UInt8) : flipT (a ^^^ b) q bs = flipT b q (flipT a q bs) := by
  refine List.ext_getElem (by rw [flipT_length, flipT_length, flipT_length]) fun i h1 h2 => ?_
  simp only [flipT, List.getElem_mapIdx]
  have hb := (bs[i]'(by rw [flipT_length] at h1; exact h1)).toNat_lt
  have ha : turnAt a q i < 256 := by unfold turnAt; split <;> omega
  have hx : (bs[i]'(by rw [flipT_length] at h1; exact h1)).toNat ^^^ turnAt a q i < 2 ^ 8 := Nat.xor_lt_two_pow (by omega) (by omega)
  rw [UInt8.toNat_ofNat', Nat.mod_eq_of_lt hx, turnAt_xor, Nat.xor_assoc]
theorem turnAt_one (k q i : Nat) : turnAt (2 ^ k) q i = if i = q + k / 8 then 2 ^ (k % 8) else 0 := by
  unfold turnAt
  split
  · rename_i h
    rw [if_neg (by omega)]
  · rename_i h
    rw [show (256 : Nat) ^ (i - q) = 2 ^ (8 * (i - q)) by rw [Nat.pow_mul]]
    by_cases h1 : 8 * (i - q) ≤ k
    · rw [Nat.pow_div h1 (by omega)]
      by_cases h2 : k - 8 * (i - q) < 8
      · have h3 : k - 8 * (i - q) = k % 8 := by omega
        rw [if_pos (by omega), h3, Nat.mod_eq_of_lt]
        calc 2 ^ (k % 8) < 2 ^ 8 := Nat.pow_lt_pow_right (by omega) (by omega)
          _ = 256 := rfl
      · rw [if_neg (by omega)]
        obtain ⟨d, hd⟩ : ∃ d, k - 8 * (i - q) = 8 + d := ⟨k - 8 * (i - q) - 8, by omega⟩
        rw [hd, Nat.pow_add, show (2 : Nat) ^ 8 = 256 by rfl, Nat.mul_mod_right]
    · have h3 : 2 ^ k < 2 ^ (8 * (i - q)) := Nat.pow_lt_pow_right (by omega) (by omega)
      rw [if_neg (by omega), Nat.div_eq_of_lt h3]
theorem flipT_one {k q p : Nat} {bs : List UInt8} (hp : p = q + k / 8) (h : p < bs.length) : flipT (2 ^ k) q bs = bs.set p (UInt8.ofNat ((bs.getD p 0).toNat ^^^ 2 ^ (k % 8))) := by
  subst hp
  refine List.ext_getElem (by rw [flipT_length, List.length_set]) fun i h1 h2 => ?_
  rw [flipT_length] at h1
  rw [List.getElem_set]
  simp only [flipT, List.getElem_mapIdx, turnAt_one]
  split
  · rename_i hi
    subst hi
    rw [if_pos rfl, List.getD_eq_getElem?_getD, List.getElem?_eq_getElem h]
    rfl
  · rename_i hi
    rw [if_neg (fun e => hi e.symm), Nat.xor_zero, ofNat_toNat]
theorem low_one {z i : Nat} (h : z / 2 ^ i % 2 = 1) : z % 2 ^ (i + 1) = (z % 2 ^ i) ^^^ 2 ^ i := by
  have hb : z.testBit i = true := by rw [Nat.testBit_eq_decide_div_mod_eq]; simpa using h
  refine Nat.eq_of_testBit_eq fun j => ?_
  rw [Nat.testBit_xor, Nat.testBit_mod_two_pow, Nat.testBit_mod_two_pow, Nat.testBit_two_pow]
  by_cases h1 : i = j
  · subst h1
    simp [hb]
  · by_cases h2 : j < i
    · simp [h1, h2, show j < i + 1 by omega]
    · simp [h1, h2, show ¬ j < i + 1 by omega]
theorem low_none {z i : Nat} (h : z / 2 ^ i % 2 ≠ 1) : z % 2 ^ (i + 1) = z % 2 ^ i := by
  have hb : z.testBit i = false := by rw [Nat.testBit_eq_decide_div_mod_eq]; simpa using h
  refine Nat.eq_of_testBit_eq fun j => ?_
  rw [Nat.testBit_mod_two_pow, Nat.testBit_mod_two_pow]
  by_cases h1 : i = j
  · subst h1
    simp [hb]
  · by_cases h2 : j < i
    · simp [h2, show j < i + 1 by omega]
    · simp [h2, show ¬ j < i + 1 by omega]
/-- The first i bits have turned. -/
def rflipB (z y i : Nat) (bs : List UInt8) : List UInt8 := flipT (z % 2 ^ i * 2 ^ (y % 8)) (y / 8) bs
theorem rflipB_length (z y i : Nat) (bs : List UInt8) : (rflipB z y i bs).length = bs.length := flipT_length _ _ _
theorem rflipB_zero (z y : Nat) (bs : List UInt8) : rflipB z y 0 bs = bs := by
  unfold rflipB
  rw [Nat.pow_zero, Nat.mod_one, Nat.zero_mul]
  refine List.ext_getElem (flipT_length _ _ _) fun i h1 h2 => ?_
  simp only [flipT, List.getElem_mapIdx, turnAt, Nat.zero_div, Nat.zero_mod, ite_self, Nat.xor_zero, ofNat_toNat]
theorem rflipB_none {z y i : Nat} {bs : List UInt8} (h : z / 2 ^ i % 2 ≠ 1) : rflipB z y (i + 1) bs = rflipB z y i bs := by
  unfold rflipB
  rw [low_none h]
theorem rflipB_one {z y i p : Nat} {bs : List UInt8} (h : z / 2 ^ i % 2 = 1) (hp : p = (y + i) / 8) (hl : p < bs.length) :
    rflipB z y (i + 1) bs = (rflipB z y i bs).set p (UInt8.ofNat (((rflipB z y i bs).getD p 0).toNat ^^^ 2 ^ ((y + i) % 8))) := by
  unfold rflipB
  have e : (z % 2 ^ i ^^^ 2 ^ i) * 2 ^ (y % 8) = (z % 2 ^ i * 2 ^ (y % 8)) ^^^ 2 ^ (i + y % 8) := by
    rw [← Nat.shiftLeft_eq, Nat.shiftLeft_xor_distrib, Nat.shiftLeft_eq, Nat.shiftLeft_eq, ← Nat.pow_add]
  rw [low_one h, e, flipT_xor, flipT_one (p := p) (by omega) (by rw [flipT_length]; exact hl), show (i + y % 8) % 8 = (y + i) % 8 by omega]
theorem rflipB_all {z y : Nat} {bs : List UInt8} (hz : z < 4294967296) : rflipB z y 32 bs = flipT (z * 2 ^ (y % 8)) (y / 8) bs := by
  unfold rflipB
  rw [Nat.mod_eq_of_lt (show z < 2 ^ 32 by omega)]
theorem rflipB_past {z y i : Nat} {bs : List UInt8} (h : 8 * bs.length ≤ y + i) : rflipB z y i bs = flipT (z * 2 ^ (y % 8)) (y / 8) bs := by
  refine List.ext_getElem (by rw [rflipB_length, flipT_length]) fun j h1 h2 => ?_
  rw [rflipB_length] at h1
  simp only [rflipB, flipT, List.getElem_mapIdx]
  congr 2
  unfold turnAt
  split
  · rfl
  · rename_i hj
    rw [← Nat.mul_mod_mul_right, ← Nat.pow_add, show (256 : Nat) ^ (j - y / 8) = 2 ^ (8 * (j - y / 8)) by rw [Nat.pow_mul]]
    refine Nat.eq_of_testBit_eq fun p => ?_
    rw [show (256 : Nat) = 2 ^ 8 by rfl, Nat.testBit_mod_two_pow, Nat.testBit_mod_two_pow, Nat.testBit_div_two_pow, Nat.testBit_div_two_pow, Nat.testBit_mod_two_pow]
    by_cases hp : p < 8
    · rw [decide_eq_true (show p + 8 * (j - y / 8) < i + y % 8 by omega), Bool.true_and]
    · rw [decide_eq_false hp, Bool.false_and, Bool.false_and]
theorem rflipB_map {z y i p : Nat} {bs : List UInt8} {b b' : UInt8} (h : z / 2 ^ i % 2 = 1) (hp : p = (y + i) / 8) (hl : p < bs.length) (hb : (rflipB z y i bs).getD p 0 = b) (hb' : UInt8.ofNat (b.toNat ^^^ 2 ^ ((y + i) % 8)) = b') :
    ((rflipB z y i bs).map byteV).set p (.int .u8 (b'.toNat : Nat)) = (rflipB z y (i + 1) bs).map byteV := by
  subst hb hb'
  rw [rflipB_one h hp hl, List.map_set]
  rfl
end Go.Proofs.YtdkpbphgaenlnaaGreat

/-
  The document's disk: Flip.
-/
namespace Go.Proofs.YtdkpbphgaenlnaaGreat
open Go.RowKit
set_option linter.unusedVariables false
set_option linter.unusedSimpArgs false
/-- A block of bytes, with a mark somewhere behind them. -/
def Bk (w : World) (g : Nat) (bs : List UInt8) : Prop := ∃ cur lo hi, w.heap[g]? = some (.cells cur 5 (lo, hi)) ∧ bs.length ≤ lo ∧ cur.toList.take bs.length = bs.map byteV
theorem Bk.at {w : World} {g : Nat} {bs : List UInt8} (h : Bk w g bs) {j : Nat} (hj : j < bs.length) : w.cell? ⟨g, j, none⟩ = some (byteV (bs.getD j 0)) ∧ w.frozen? ⟨g, j, none⟩ = false := by
  obtain ⟨cur, lo, hi, h1, h2, h3⟩ := h
  refine ⟨?_, ?_⟩
  · rw [cell_of_row w g j cur _ _ h1]
    have h4 := congrArg (fun l : List Value => l[j]?) h3
    simp only [List.getElem?_take, if_pos hj, List.getElem?_map, Array.getElem?_toList] at h4
    rw [h4, List.getD_eq_getElem?_getD, List.getElem?_eq_getElem hj]
    rfl
  · simp only [World.frozen?, h1]
    rw [decide_eq_false (by omega), Bool.false_and]
theorem Bk.put {w : World} {g : Nat} {bs : List UInt8} (h : Bk w g bs) {j : Nat} (b : UInt8) : Bk (w.setCell ⟨g, j, none⟩ (byteV b)) g (bs.set j b) := by
  obtain ⟨cur, lo, hi, h1, h2, h3⟩ := h
  refine ⟨cur.setIfInBounds j (byteV b), lo, hi, by simp [World.setCell, Array.getElem?_modify, h1], by rw [List.length_set]; exact h2, ?_⟩
  rw [List.length_set, Array.toList_setIfInBounds, List.take_set, h3, List.map_set]
theorem Bk.lt {w : World} {g : Nat} {bs : List UInt8} (h : Bk w g bs) : g < w.heap.size := by
  obtain ⟨cur, lo, hi, h1, _⟩ := h
  exact (Array.getElem?_eq_some_iff.1 h1).1
theorem Bk.grow {w w' : World} {g : Nat} {bs : List UInt8} (h : Bk w g bs) (hg : Grows w w') : Bk w' g bs := by
  have hl := h.lt
  obtain ⟨cur, lo, hi, h1, h2, h3⟩ := h
  exact ⟨cur, lo, hi, (hg.block g hl).trans h1, h2, h3⟩
theorem Bk.sl {w : World} {g c : Nat} {bs : List UInt8} (h : Bk w g bs) (hc : bs.length ≤ c) : Sl w (some ⟨g, 0, none⟩) bs.length c bs := by
  refine ⟨⟨by simp, fun k v hk => ⟨_, rfl, h.lt, ?_⟩⟩, hc, fun h => by cases h⟩
  have hkl : k < bs.length := by
    have := (List.getElem?_eq_some_iff.1 hk).1
    simpa using this
  rw [show (⟨g, 0, none⟩ : Addr).add k = ⟨g, k, none⟩ by unfold Addr.add; split <;> simp_all, (h.at hkl).1]
  rw [List.getElem?_map, List.getElem?_eq_getElem hkl] at hk
  rw [← hk, List.getD_eq_getElem?_getD, List.getElem?_eq_getElem hkl]
  rfl
theorem run_bytesB (w : World) (L : List UInt8) : ∃ c w', (convert 9 55 (.string ⟨L.toArray⟩)).run Tryz.prog w = .ok (.slice (some ⟨w.heap.size, 0, none⟩) L.length c) w' ∧ Bk w' w.heap.size L ∧ L.length ≤ c ∧ Grows w w' := by
  refine ⟨_, _, by rw [run_bytes_of_string w 9 55 5 ⟨L.toArray⟩ Tryz.underlying9 Tryz.underlying55 Tryz.underlying5, bytes_size8], ⟨_, _, _, World.alloc_heap_new w.drew _, ?_, ?_⟩, grownCap_ge w _ _ _, Grows.trans (grows_drew w) (grows_alloc _ _)⟩
  · unfold bytesRow
    rw [Array.size_append, Array.size_map]
    show L.length ≤ L.toArray.size + _
    rw [List.size_toArray]
    omega
  · unfold bytesRow
    rw [Array.toList_append, Array.toList_map]
    show (L.map _ ++ _).take L.length = _
    rw [List.take_left' (by simp)]
    rfl
theorem bit_of (z k : Nat) : (((z : Int) / 2 ^ k).tmod 2 == 1) = decide (z / 2 ^ k % 2 = 1) := by
  have h : ((z : Int) / 2 ^ k) = ((z / 2 ^ k : Nat) : Int) := by push_cast; rfl
  rw [h]
  generalize z / 2 ^ k = u
  rw [Int.tmod_eq_emod_of_nonneg (by omega)]
  by_cases h : u % 2 = 1
  · rw [decide_eq_true h, beq_iff_eq]; omega
  · rw [decide_eq_false h, beq_eq_false_iff_ne]; omega
theorem pow_byte (S : Nat) (h : S < 8) : IntKind.u8.wrap (1 * 2 ^ S) = ((2 ^ S : Nat) : Int) ∧ 2 ^ S < 256 := by
  match S, h with
  | 0, _ => exact ⟨by decide, by decide⟩
  | 1, _ => exact ⟨by decide, by decide⟩
  | 2, _ => exact ⟨by decide, by decide⟩
  | 3, _ => exact ⟨by decide, by decide⟩
  | 4, _ => exact ⟨by decide, by decide⟩
  | 5, _ => exact ⟨by decide, by decide⟩
  | 6, _ => exact ⟨by decide, by decide⟩
  | 7, _ => exact ⟨by decide, by decide⟩
theorem setB {z y i p : Nat} {bs : List UInt8} {b b' : UInt8} {w : World} {g : Nat} (h : z / 2 ^ i % 2 = 1) (hp : p = (y + i) / 8) (hl : p < bs.length) (hb : (rflipB z y i bs).getD p 0 = b) (hb' : UInt8.ofNat (b.toNat ^^^ 2 ^ ((y + i) % 8)) = b') (hk : Bk w g (rflipB z y i bs)) :
    Bk (w.setCell ⟨g, p, none⟩ (.int .u8 (b'.toNat : Nat))) g (rflipB z y (i + 1) bs) := by
  subst hb hb'
  rw [rflipB_one h hp hl]
  exact hk.put _
section
variable {w w' : World} {r : Nat} {own : Nat → Prop} {m m' : Rf} {fv nv kv pv fv' nv' kv' pv' : Value}
set_option maxHeartbeats 4000000 in
set_option maxRecDepth 100000 in
theorem rflip_any (w : World) (n : Nm) (y0 : Int) (z : Nat) (h : RfAt w r own m fv nv kv pv) (hF : RfFit m) (hy0 : -9223372036854775808 ≤ y0 ∧ y0 ≤ 9223372036854775807) (hz : z < 4294967296) :
    Calls Tryz.prog 18 #[.pointer (some ⟨r, 0, none⟩), .string ⟨n.toArray⟩, .int .i64 y0, .int .u32 (z : Int)] w fun e w' => e = .returned (.bool (m.flip n y0 z).2) ∧ RfTo w r own w' (m.flip n y0 z).1 := by
  obtain ⟨A, c, hA, hrw⟩ := h.namesRw
  have c2 : w.cell? ⟨r, 2, none⟩ = some (.slice A m.names.length c) := by rw [← hA]; exact h.cell 2
  have HFI := Lib.hid (rfind_any w (c := c) n hrw (by have := hF.names; omega))
  have H := Lib.hid h
  unfold Rf.flip
  rcases fidx_find (n := n) (l := m.names) with ⟨hf, hx'⟩ | ⟨i, f, hf, hx', hi⟩
  · rw [hf]
    dsimp only
    rw [hx'] at HFI
    clear h hA hrw hf hx' hF
    go_enter Tryz.func18, Tryz.ntmps18
    go_wp2_with (fail)
    refine HFI.out.mono ?_
    rintro e w1 ⟨rfl, rfl⟩
    go_wp2_with (fail)
    go_ret
    exact ⟨rfl, RfTo.same H.out (Spares.refl _ _) H.out.ro⟩
  rw [hf]
  dsimp only
  obtain ⟨gn, cn, gf, cf, v, hn, hfv, hv, hil, hfl, hc⟩ := h.found hF hi
  rw [hx'] at HFI
  have HC := Lib.hid hc
  rw [hA] at hn
  injection hn with hn1 _ hn2
  subst hn1 hn2
  rw [hfv, hA] at HC hc
  have hvb := (hF.bytes v (List.mem_of_getElem? hv)).1
  have hml : m.len f = v.bytes.length := by unfold Rf.len; rw [getD_of hv]
  rw [hml, getD_of hv]
  have hiI : (i : Int) < (m.names.length : Int) := by omega
  have hfI : (f : Int) < (m.files.length : Int) := by omega
  have hi0 : ¬ ((i : Int) < 0) := by omega
  have hi1 : (0 : Int) ≤ (i : Int) := by omega
  have hf0 : (0 : Int) ≤ (f : Int) := by omega
  have hset : ∀ w6, Grows w w6 → ∀ u, _ := fun w6 hg u => rset_any w6 f u (h.grow hg) hF.files hfl
  have HSET := Lib.hid hset
  obtain ⟨cc, w6, hrun, hbk, hcc, hg6⟩ := run_bytesB w v.bytes
  obtain ⟨bs, hbs⟩ : ∃ bs, v.bytes = bs := ⟨_, rfl⟩
  obtain ⟨kp, hkp⟩ : ∃ kp, v.kept = kp := ⟨_, rfl⟩
  rw [hbs] at HC hc hvb hrun hbk hcc ⊢
  rw [hkp] at HC hc ⊢
  obtain ⟨s, hsb⟩ : ∃ s : ByteArray, (⟨bs.toArray⟩ : ByteArray) = s := ⟨_, rfl⟩
  obtain ⟨vl, hvl⟩ : ∃ vl, bs.length = vl := ⟨_, rfl⟩
  obtain ⟨g, hge⟩ : ∃ g, w.heap.size = g := ⟨_, rfl⟩
  rw [hsb] at HC hc hrun
  rw [hvl] at hvb hcc hrun ⊢
  rw [hge] at hrun hbk
  have HB := Lib.hid (And.intro hbk (And.intro hg6 (And.intro hcc hge)))
  have HVL := Lib.hid hvl
  obtain ⟨nl, hnl⟩ : ∃ nl, m.names.length = nl := ⟨_, rfl⟩
  obtain ⟨fl, hfl'⟩ : ∃ fl, m.files.length = fl := ⟨_, rfl⟩
  rw [hnl] at c2 hiI HC hc HFI
  rw [hfl'] at HC hc hfI
  obtain ⟨z1, z2, z3, z4, z5⟩ := hc w (Grows.refl _)
  have hw8 : IntKind.i64.wrap (8 * (vl : Int)) = 8 * (vl : Int) := IntWalk.i64_in _ (by omega)
  clear h hA hrw hf hx' hF hi hv hc hfv hil hfl hsb hml hbs hvl hset hbk hg6 hcc hge hkp hnl hfl' z5
  by_cases hb1 : y0 < 0
  · rw [if_pos (.inl hb1)]
    go_enter Tryz.func18, Tryz.ntmps18
    go_wp2_with (fail)
    refine HFI.out.mono ?_
    rintro e w1 ⟨rfl, rfl⟩
    go_wp2_with (fail)
    go_ret
    exact ⟨rfl, RfTo.same (H.out.grow HB.out.2.1) (Spares.grows HB.out.2.1) H.out.ro⟩
  by_cases hb2 : 8 * (vl : Int) ≤ y0
  · rw [if_pos (.inr hb2)]
    go_enter Tryz.func18, Tryz.ntmps18
    go_wp2_with (fail)
    refine HFI.out.mono ?_
    rintro e w1 ⟨rfl, rfl⟩
    go_wp2_with (fail)
    go_ret
    exact ⟨rfl, RfTo.same (H.out.grow HB.out.2.1) (Spares.grows HB.out.2.1) H.out.ro⟩
  rw [if_neg (by omega)]
  obtain ⟨y, rfl⟩ := Int.eq_ofNat_of_zero_le (show 0 ≤ y0 by omega)
  rw [Int.toNat_natCast]
  clear hy0
  go_enter Tryz.func18, Tryz.ntmps18
  go_wp2_with (fail)
  refine HFI.out.mono ?_
  rintro e w1 ⟨rfl, rfl⟩
  go_wp2_with (fail)
  go_loopw [12] (fun vi wr => ∃ k : Nat, k ≤ 32 ∧ vi = .int .i64 (k : Nat) ∧ Hid (Bk wr g (rflipB z y k bs)) ∧ Hid (Grows w wr)) (fun i _ => 32 - (intOf i).toNat)
  case atStart => exact ⟨0, by omega, rfl, Lib.hid (by rw [rflipB_zero]; exact HB.out.1), Lib.hid HB.out.2.1⟩
  case round =>
    obtain ⟨k, hk, rfl, HK, HG⟩ := hrel
    clear z1 z2 z3 z4
    have hwk : IntKind.i64.wrap ((y : Int) + (k : Int)) = (y : Int) + (k : Int) := IntWalk.i64_in _ (by omega)
    by_cases hk32 : k < 32 ∧ y + k < 8 * vl
    · obtain ⟨hk1, hk2⟩ := hk32
      have hkI : (k : Int) < 32 := by omega
      have hkI2 : (y : Int) + (k : Int) < 8 * (vl : Int) := by omega
      have hk0 : (0 : Int) ≤ (k : Int) := by omega
      have hwk1 : IntKind.i64.wrap ((k : Int) + 1) = (k : Int) + 1 := IntWalk.i64_in _ (by omega)
      have hbi := bit_of z k
      by_cases hbit : z / 2 ^ k % 2 = 1
      · rw [decide_eq_true hbit] at hbi
        obtain ⟨P, hP⟩ : ∃ P, (y + k) / 8 = P := ⟨_, rfl⟩
        obtain ⟨S, hS⟩ : ∃ S, (y + k) % 8 = S := ⟨_, rfl⟩
        have hq2 : ((y : Int) + (k : Int)).tdiv 8 = (P : Int) := by rw [Int.tdiv_eq_ediv_of_nonneg (by omega)]; omega
        have hr2 : ((y : Int) + (k : Int)).tmod 8 = (S : Int) := by rw [Int.tmod_eq_emod_of_nonneg (by omega)]; omega
        have hPl : P < vl := by omega
        have hPI : (P : Int) < (vl : Int) := by omega
        have hP0 : (0 : Int) ≤ (P : Int) := by omega
        have hS0 : (0 : Int) ≤ (S : Int) := by omega
        have hS8 : (S : Int) < 8 := by omega
        have hwP : IntKind.i64.wrap (P : Int) = P := IntWalk.i64_in _ (by omega)
        have hwS : IntKind.i64.wrap (S : Int) = S := IntWalk.i64_in _ (by omega)
        have hE := pow_byte S (by omega)
        obtain ⟨E, hEe⟩ : ∃ E, 2 ^ S = E := ⟨_, rfl⟩
        rw [hEe] at hE
        have hfl := rflipB_length z y k bs
        obtain ⟨b1, hb1⟩ : ∃ b1, (rflipB z y k bs).getD P 0 = b1 := ⟨_, rfl⟩
        obtain ⟨b2, hb2⟩ : ∃ b2, UInt8.ofNat (b1.toNat ^^^ E) = b2 := ⟨_, rfl⟩
        have hxb := xor_byte b1 E hE.2
        rw [hb2] at hxb
        have hat : ∀ w', Grows wr w' → w'.cell? ⟨g, P, none⟩ = some (.int .u8 (b1.toNat : Nat)) ∧ w'.frozen? ⟨g, P, none⟩ = false := fun w' hg => by
          have := (HK.out.grow hg).at (j := P) (by rw [hfl, HVL.out]; exact hPl)
          rw [hb1] at this
          exact this
        have HAT := Lib.hid hat
        have HSB := Lib.hid (show ∀ w', Grows wr w' → Bk (w'.setCell ⟨g, P, none⟩ (.int .u8 (b2.toNat : Nat))) g (rflipB z y (k + 1) bs) from fun w' hg => setB (i := k) hbit hP.symm (by rw [HVL.out]; exact hPl) hb1 (by rw [hS, hEe]; exact hb2) (HK.out.grow hg))
        have hw1 : IntKind.u8.wrap (1 * 2 ^ S) = (E : Int) := by rw [← hE.1]
        have hw1' : IntKind.u8.wrap (2 ^ S) = (E : Int) := by rw [← hE.1, Int.one_mul]
        have HE := Lib.hid (And.intro hw1 hw1')
        have HXB := Lib.hid hxb
        have HK1 := Lib.hid hk1
        have HGW := Lib.hid (show ∀ w', Grows wr w' → Grows w (w'.setCell ⟨g, P, none⟩ (.int .u8 (b2.toNat : Nat))) from fun w' hg => (Grows.trans HG.out hg).setCell (show w.heap.size ≤ g by rw [HB.out.2.2.2]; exact Nat.le_refl _) _)
        clear hP hS hEe hfl hb1 hb2 hat hbit hE hk1 hk2 hw1 hw1' hxb
        go_wp2_with (fail)
        refine wp_region_facts_tail (E := Grows) 19 [valFact (.slice (some ⟨g, 0, none⟩) vl cc), valFact (.int .i64 (y : Int)), valFact (.int .i64 (k : Int)), valFact (.int .i64 ((y : Int) + (k : Int))), valFact (.int .i64 (P : Int)), valFact (.slice (some ⟨g, 0, none⟩) vl cc), valFact (.int .i64 (y : Int)), valFact (.int .i64 (k : Int)), valFact (.int .i64 ((y : Int) + (k : Int))), valFact (.int .i64 (P : Int)), valFact (.pointer (some ⟨g, P, none⟩)), valFact (.int .u8 (b1.toNat : Nat)), valFact (.int .i64 (y : Int)), valFact (.int .i64 (k : Int)), valFact (.int .i64 ((y : Int) + (k : Int))), valFact (.int .i64 (S : Int)), valFact (.int .u8 (E : Int)), valFact (.int .u8 (b2.toNat : Nat)), valFact (.pointer (some ⟨g, P, none⟩))] mixed (by kernel_rfl) (fun _ _ _ => Grows.trans) (grows_drew _) ?_
        simp only [List.take_succ_cons, List.take_zero, List.drop_succ_cons, List.drop_zero]
        refine f_val (.slice (some ⟨g, 0, none⟩) vl cc) (by rfl) ?_ ?_
        · intro w' hC; clear hC; first | (go_simp; done)
        simp only [Act.put, List.setIfInBounds_toArray, List.set_cons_zero, List.set_cons_succ]
        refine f_val (.int .i64 (y : Int)) (by rfl) ?_ ?_
        · intro w' hC; clear hC; first | (go_simp; done)
        simp only [Act.put, List.setIfInBounds_toArray, List.set_cons_zero, List.set_cons_succ]
        refine f_val (.int .i64 (k : Int)) (by rfl) ?_ ?_
        · intro w' hC; clear hC; first | (go_simp; done)
        simp only [Act.put, List.setIfInBounds_toArray, List.set_cons_zero, List.set_cons_succ]
        refine f_val (.int .i64 ((y : Int) + (k : Int))) (by rfl) ?_ ?_
        · intro w' hC; clear hC; first | (go_simp; done)
        simp only [Act.put, List.setIfInBounds_toArray, List.set_cons_zero, List.set_cons_succ]
        refine f_val (.int .i64 (P : Int)) (by rfl) ?_ ?_
        · intro w' hC; clear hC; first | (go_simp; done)
        simp only [Act.put, List.setIfInBounds_toArray, List.set_cons_zero, List.set_cons_succ]
        refine f_val (.slice (some ⟨g, 0, none⟩) vl cc) (by rfl) ?_ ?_
        · intro w' hC; clear hC; first | (go_simp; done)
        simp only [Act.put, List.setIfInBounds_toArray, List.set_cons_zero, List.set_cons_succ]
        refine f_val (.int .i64 (y : Int)) (by rfl) ?_ ?_
        · intro w' hC; clear hC; first | (go_simp; done)
        simp only [Act.put, List.setIfInBounds_toArray, List.set_cons_zero, List.set_cons_succ]
        refine f_val (.int .i64 (k : Int)) (by rfl) ?_ ?_
        · intro w' hC; clear hC; first | (go_simp; done)
        simp only [Act.put, List.setIfInBounds_toArray, List.set_cons_zero, List.set_cons_succ]
        refine f_val (.int .i64 ((y : Int) + (k : Int))) (by rfl) ?_ ?_
        · intro w' hC; clear hC; first | (go_simp; done)
        simp only [Act.put, List.setIfInBounds_toArray, List.set_cons_zero, List.set_cons_succ]
        refine f_val (.int .i64 (P : Int)) (by rfl) ?_ ?_
        · intro w' hC; clear hC; first | (go_simp; done)
        simp only [Act.put, List.setIfInBounds_toArray, List.set_cons_zero, List.set_cons_succ]
        refine f_val (.pointer (some ⟨g, P, none⟩)) (by rfl) ?_ ?_
        · intro w' hC; clear hC; first | (go_simp; done)
        simp only [Act.put, List.setIfInBounds_toArray, List.set_cons_zero, List.set_cons_succ]
        refine f_val (.int .u8 (b1.toNat : Nat)) (by rfl) ?_ ?_
        · intro w' hC; obtain ⟨z1, z2⟩ := HAT.out w' hC; clear hC; first | (go_simp; done)
        simp only [Act.put, List.setIfInBounds_toArray, List.set_cons_zero, List.set_cons_succ]
        refine f_val (.int .i64 (y : Int)) (by rfl) ?_ ?_
        · intro w' hC; clear hC; first | (go_simp; done)
        simp only [Act.put, List.setIfInBounds_toArray, List.set_cons_zero, List.set_cons_succ]
        refine f_val (.int .i64 (k : Int)) (by rfl) ?_ ?_
        · intro w' hC; clear hC; first | (go_simp; done)
        simp only [Act.put, List.setIfInBounds_toArray, List.set_cons_zero, List.set_cons_succ]
        refine f_val (.int .i64 ((y : Int) + (k : Int))) (by rfl) ?_ ?_
        · intro w' hC; clear hC; first | (go_simp; done)
        simp only [Act.put, List.setIfInBounds_toArray, List.set_cons_zero, List.set_cons_succ]
        refine f_val (.int .i64 (S : Int)) (by rfl) ?_ ?_
        · intro w' hC; clear hC; first | (go_simp; done)
        simp only [Act.put, List.setIfInBounds_toArray, List.set_cons_zero, List.set_cons_succ]
        refine f_val (.int .u8 (E : Int)) (by rfl) ?_ ?_
        · intro w' hC; obtain ⟨z1, z2⟩ := HE.out; clear hC; first | (go_simp; done)
        simp only [Act.put, List.setIfInBounds_toArray, List.set_cons_zero, List.set_cons_succ]
        refine f_val (.int .u8 (b2.toNat : Nat)) (by rfl) ?_ ?_
        · intro w' hC; have z1 := HXB.out; clear hC; first | (go_simp; done)
        simp only [Act.put, List.setIfInBounds_toArray, List.set_cons_zero, List.set_cons_succ]
        refine f_val (.pointer (some ⟨g, P, none⟩)) (by rfl) ?_ ?_
        · intro w' hC; clear hC; first | (go_simp; done)
        simp only [Act.put, List.setIfInBounds_toArray, List.set_cons_zero, List.set_cons_succ]
        refine wpF_end ?_
        intro w7 hC hks
        have HCw7 := Lib.hid hC
        clear hC hks
        obtain ⟨c7, f7⟩ := HAT.out w7 HCw7.out
        go_wp2_with (fail)
        exact ⟨⟨k + 1, HK1.out, rfl, Lib.hid (HSB.out w7 HCw7.out), Lib.hid (HGW.out w7 HCw7.out)⟩, by simp only [intOf]; have := HK1.out; omega⟩
      · rw [decide_eq_false hbit] at hbi
        have HN := Lib.hid (rflipB_none (y := y) (bs := bs) hbit)
        clear hbit
        go_wp2_with (fail)
        exact ⟨⟨k + 1, hk1, rfl, Lib.hid (by rw [HN.out]; exact HK.out), HG⟩, by simp only [intOf]; omega⟩
    · have hEnd : rflipB z y k bs = flipT (z * 2 ^ (y % 8)) (y / 8) bs := by
        by_cases h32 : k < 32
        · exact rflipB_past (by rw [HVL.out]; omega)
        · obtain rfl : k = 32 := by omega
          exact rflipB_all hz
      have hbk := HK.out
      rw [hEnd] at hbk
      have hfl := flipT_length (z * 2 ^ (y % 8)) (y / 8) bs
      obtain ⟨X, hX⟩ : ∃ X, flipT (z * 2 ^ (y % 8)) (y / 8) bs = X := ⟨_, rfl⟩
      rw [hX, HVL.out] at hfl
      rw [hX] at hbk
      have HX := Lib.hid hX
      obtain ⟨st, hst⟩ : ∃ s : ByteArray, (⟨X.toArray⟩ : ByteArray) = s := ⟨_, rfl⟩
      have HS2 := Lib.hid (show ∀ w', Grows wr w' → Calls Tryz.prog 65 #[.pointer (some ⟨r, 0, none⟩), .int .i64 (f : Int), .agg #[.string st, .int .i64 (kp : Int)]] w' fun e w'' => e = .returned (.tuple #[]) ∧ RfTo w' r own w'' (m.set f ⟨X, kp⟩) from fun w' hg => hst ▸ HSET.out w' (Grows.trans HG.out hg) ⟨X, kp⟩)
      have HSL := Lib.hid (show ∀ w', Grows wr w' → (convert 55 9 (.slice (some ⟨g, 0, none⟩) vl cc)).run Tryz.prog w' = .ok (.string st) w' from fun w' hg => by
        have := run_string ((hbk.grow hg).sl (c := cc) (by rw [hfl]; exact HB.out.2.2.1))
        rw [hfl, hst] at this
        exact this)
      have HC2 := Lib.hid (show ∀ w', Grows wr w' → w'.cell? ⟨r, 1, none⟩ = some (.slice (some ⟨gf, 0, none⟩) fl cf) ∧ w'.cell? ⟨gf, f * 2 + 1, none⟩ = some (.int .i64 (kp : Int)) from fun w' hg => ⟨(HC.out w' (Grows.trans HG.out hg)).1, (HC.out w' (Grows.trans HG.out hg)).2.2.2.2⟩)
      clear hEnd hbk hfl hX hst
      by_cases h32 : k < 32
      · have hkI : (k : Int) < 32 := by omega
        have hkI2 : ¬ ((y : Int) + (k : Int) < 8 * (vl : Int)) := by omega
        clear hk32
        go_wp2_with (fail)
        refine wp_region_facts_tail (E := Grows) 13 [valFact (.pointer (some ⟨r, 0, none⟩)), valFact (.int .i64 (f : Int)), valFact (.slice (some ⟨g, 0, none⟩) vl cc), valFact (.string st), valFact (.pointer (some ⟨r, 0, none⟩)), valFact (.pointer (some ⟨r, 0, none⟩)), valFact (.pointer (some ⟨r, 1, none⟩)), valFact (.slice (some ⟨gf, 0, none⟩) fl cf), valFact (.int .i64 (f : Int)), valFact (.pointer (some ⟨gf, f * 2, none⟩)), valFact (.pointer (some ⟨gf, f * 2 + 1, none⟩)), valFact (.int .i64 (kp : Int)), valFact (.agg #[.string st, .int .i64 (kp : Int)])] mixed (by kernel_rfl) (fun _ _ _ => Grows.trans) (grows_drew _) ?_
        simp only [List.take_succ_cons, List.take_zero, List.drop_succ_cons, List.drop_zero]
        refine f_val (.pointer (some ⟨r, 0, none⟩)) (by rfl) ?_ ?_
        · intro w' hC; clear hC; first | (go_simp; done)
        simp only [Act.put, List.setIfInBounds_toArray, List.set_cons_zero, List.set_cons_succ]
        refine f_val (.int .i64 (f : Int)) (by rfl) ?_ ?_
        · intro w' hC; clear hC; first | (go_simp; done)
        simp only [Act.put, List.setIfInBounds_toArray, List.set_cons_zero, List.set_cons_succ]
        refine f_val (.slice (some ⟨g, 0, none⟩) vl cc) (by rfl) ?_ ?_
        · intro w' hC; clear hC; first | (go_simp; done)
        simp only [Act.put, List.setIfInBounds_toArray, List.set_cons_zero, List.set_cons_succ]
        refine f_val (.string st) (by rfl) ?_ ?_
        · intro w' hC; have z1 := HSL.out w' hC; clear hC; first | (go_simp; done)
        simp only [Act.put, List.setIfInBounds_toArray, List.set_cons_zero, List.set_cons_succ]
        refine f_val (.pointer (some ⟨r, 0, none⟩)) (by rfl) ?_ ?_
        · intro w' hC; clear hC; first | (go_simp; done)
        simp only [Act.put, List.setIfInBounds_toArray, List.set_cons_zero, List.set_cons_succ]
        refine f_val (.pointer (some ⟨r, 0, none⟩)) (by rfl) ?_ ?_
        · intro w' hC; clear hC; first | (go_simp; done)
        simp only [Act.put, List.setIfInBounds_toArray, List.set_cons_zero, List.set_cons_succ]
        refine f_val (.pointer (some ⟨r, 1, none⟩)) (by rfl) ?_ ?_
        · intro w' hC; clear hC; first | (go_simp; done)
        simp only [Act.put, List.setIfInBounds_toArray, List.set_cons_zero, List.set_cons_succ]
        refine f_val (.slice (some ⟨gf, 0, none⟩) fl cf) (by rfl) ?_ ?_
        · intro w' hC; obtain ⟨z1, z2⟩ := HC2.out w' hC; clear hC; first | (go_simp; done)
        simp only [Act.put, List.setIfInBounds_toArray, List.set_cons_zero, List.set_cons_succ]
        refine f_val (.int .i64 (f : Int)) (by rfl) ?_ ?_
        · intro w' hC; clear hC; first | (go_simp; done)
        simp only [Act.put, List.setIfInBounds_toArray, List.set_cons_zero, List.set_cons_succ]
        refine f_val (.pointer (some ⟨gf, f * 2, none⟩)) (by rfl) ?_ ?_
        · intro w' hC; clear hC; first | (go_simp; done)
        simp only [Act.put, List.setIfInBounds_toArray, List.set_cons_zero, List.set_cons_succ]
        refine f_val (.pointer (some ⟨gf, f * 2 + 1, none⟩)) (by rfl) ?_ ?_
        · intro w' hC; clear hC; first | (go_simp; done)
        simp only [Act.put, List.setIfInBounds_toArray, List.set_cons_zero, List.set_cons_succ]
        refine f_val (.int .i64 (kp : Int)) (by rfl) ?_ ?_
        · intro w' hC; obtain ⟨z1, z2⟩ := HC2.out w' hC; clear hC; first | (go_simp; done)
        simp only [Act.put, List.setIfInBounds_toArray, List.set_cons_zero, List.set_cons_succ]
        refine f_val (.agg #[.string st, .int .i64 (kp : Int)]) (by rfl) ?_ ?_
        · intro w' hC; clear hC; first | (go_simp; done)
        simp only [Act.put, List.setIfInBounds_toArray, List.set_cons_zero, List.set_cons_succ]
        refine wpF_end ?_
        intro w8 hC hks
        have HCw8 := Lib.hid hC
        clear hC hks
        go_wp2_with (fail)
        refine (HS2.out w8 HCw8.out).mono ?_
        rintro e w9 ⟨rfl, hto⟩
        have HTO := Lib.hid hto
        clear hto
        go_wp2_with (fail)
        go_ret
        exact ⟨rfl, by rw [HX.out]; exact RfTo.behind H.out.ro (Spares.grows (Grows.trans HG.out HCw8.out)) HTO.out⟩
      · have hkI : ¬ ((k : Int) < 32) := by omega
        clear hk32
        go_wp2_with (fail)
        refine wp_region_facts_tail (E := Grows) 13 [valFact (.pointer (some ⟨r, 0, none⟩)), valFact (.int .i64 (f : Int)), valFact (.slice (some ⟨g, 0, none⟩) vl cc), valFact (.string st), valFact (.pointer (some ⟨r, 0, none⟩)), valFact (.pointer (some ⟨r, 0, none⟩)), valFact (.pointer (some ⟨r, 1, none⟩)), valFact (.slice (some ⟨gf, 0, none⟩) fl cf), valFact (.int .i64 (f : Int)), valFact (.pointer (some ⟨gf, f * 2, none⟩)), valFact (.pointer (some ⟨gf, f * 2 + 1, none⟩)), valFact (.int .i64 (kp : Int)), valFact (.agg #[.string st, .int .i64 (kp : Int)])] mixed (by kernel_rfl) (fun _ _ _ => Grows.trans) (grows_drew _) ?_
        simp only [List.take_succ_cons, List.take_zero, List.drop_succ_cons, List.drop_zero]
        refine f_val (.pointer (some ⟨r, 0, none⟩)) (by rfl) ?_ ?_
        · intro w' hC; clear hC; first | (go_simp; done)
        simp only [Act.put, List.setIfInBounds_toArray, List.set_cons_zero, List.set_cons_succ]
        refine f_val (.int .i64 (f : Int)) (by rfl) ?_ ?_
        · intro w' hC; clear hC; first | (go_simp; done)
        simp only [Act.put, List.setIfInBounds_toArray, List.set_cons_zero, List.set_cons_succ]
        refine f_val (.slice (some ⟨g, 0, none⟩) vl cc) (by rfl) ?_ ?_
        · intro w' hC; clear hC; first | (go_simp; done)
        simp only [Act.put, List.setIfInBounds_toArray, List.set_cons_zero, List.set_cons_succ]
        refine f_val (.string st) (by rfl) ?_ ?_
        · intro w' hC; have z1 := HSL.out w' hC; clear hC; first | (go_simp; done)
        simp only [Act.put, List.setIfInBounds_toArray, List.set_cons_zero, List.set_cons_succ]
        refine f_val (.pointer (some ⟨r, 0, none⟩)) (by rfl) ?_ ?_
        · intro w' hC; clear hC; first | (go_simp; done)
        simp only [Act.put, List.setIfInBounds_toArray, List.set_cons_zero, List.set_cons_succ]
        refine f_val (.pointer (some ⟨r, 0, none⟩)) (by rfl) ?_ ?_
        · intro w' hC; clear hC; first | (go_simp; done)
        simp only [Act.put, List.setIfInBounds_toArray, List.set_cons_zero, List.set_cons_succ]
        refine f_val (.pointer (some ⟨r, 1, none⟩)) (by rfl) ?_ ?_
        · intro w' hC; clear hC; first | (go_simp; done)
        simp only [Act.put, List.setIfInBounds_toArray, List.set_cons_zero, List.set_cons_succ]
        refine f_val (.slice (some ⟨gf, 0, none⟩) fl cf) (by rfl) ?_ ?_
        · intro w' hC; obtain ⟨z1, z2⟩ := HC2.out w' hC; clear hC; first | (go_simp; done)
        simp only [Act.put, List.setIfInBounds_toArray, List.set_cons_zero, List.set_cons_succ]
        refine f_val (.int .i64 (f : Int)) (by rfl) ?_ ?_
        · intro w' hC; clear hC; first | (go_simp; done)
        simp only [Act.put, List.setIfInBounds_toArray, List.set_cons_zero, List.set_cons_succ]
        refine f_val (.pointer (some ⟨gf, f * 2, none⟩)) (by rfl) ?_ ?_
        · intro w' hC; clear hC; first | (go_simp; done)
        simp only [Act.put, List.setIfInBounds_toArray, List.set_cons_zero, List.set_cons_succ]
        refine f_val (.pointer (some ⟨gf, f * 2 + 1, none⟩)) (by rfl) ?_ ?_
        · intro w' hC; clear hC; first | (go_simp; done)
        simp only [Act.put, List.setIfInBounds_toArray, List.set_cons_zero, List.set_cons_succ]
        refine f_val (.int .i64 (kp : Int)) (by rfl) ?_ ?_
        · intro w' hC; obtain ⟨z1, z2⟩ := HC2.out w' hC; clear hC; first | (go_simp; done)
        simp only [Act.put, List.setIfInBounds_toArray, List.set_cons_zero, List.set_cons_succ]
        refine f_val (.agg #[.string st, .int .i64 (kp : Int)]) (by rfl) ?_ ?_
        · intro w' hC; clear hC; first | (go_simp; done)
        simp only [Act.put, List.setIfInBounds_toArray, List.set_cons_zero, List.set_cons_succ]
        refine wpF_end ?_
        intro w8 hC hks
        have HCw8 := Lib.hid hC
        clear hC hks
        go_wp2_with (fail)
        refine (HS2.out w8 HCw8.out).mono ?_
        rintro e w9 ⟨rfl, hto⟩
        have HTO := Lib.hid hto
        clear hto
        go_wp2_with (fail)
        go_ret
        exact ⟨rfl, by rw [HX.out]; exact RfTo.behind H.out.ro (Spares.grows (Grows.trans HG.out HCw8.out)) HTO.out⟩
end
end Go.Proofs.YtdkpbphgaenlnaaGreat

/-
  Both disks, that a law has made: in blocks from B on, apart from each other, and from others that the law needs; what goes along with them.
-/
namespace Go.Proofs.YtdkpbphgaenlnaaGreat
open Go.RowKit Go.Maps Go.WideMaps
set_option linter.unusedVariables false
set_option linter.unusedSimpArgs false

/-- The files of the document's disk are not too long. -/
def RfOk (K : Nat) (x : Rf) : Prop := 0 ≤ x.most ∧ ∀ f ∈ x.files, f.bytes.length ≤ K ∧ f.kept ≤ f.bytes.length
section
variable {K K' : Nat} {x x' : Rf} {m : Dk}
theorem RfOk.of (h : RfOk K x) (e : x'.files = x.files) (hK : K ≤ K') (e2 : x'.most = x.most := by rfl) : RfOk K' x' := ⟨e2 ▸ h.1, fun f hf => ⟨Nat.le_trans (h.2 f (e ▸ hf)).1 hK, (h.2 f (e ▸ hf)).2⟩⟩
theorem thing_files (x : Rf) : x.thing.1.files = x.files := by
  unfold Rf.thing
  split
  · rfl
  · split <;> rfl
theorem thing_most (x : Rf) : x.thing.1.most = x.most := by
  unfold Rf.thing
  split
  · rfl
  · split <;> rfl
theorem RfOk.thing (h : RfOk K x) (hK : K ≤ K') {X : Rf} (hX : RfOk K' X) : RfOk K' (if x.thing.2 = 0 then (X, (0 : Int)) else x.thing).1 := by
  split
  · exact hX
  · exact h.of (thing_files x) hK (thing_most x)
theorem RfOk.set (h : RfOk K x) (hK : K ≤ K') {k : Nat} {f : Fl} (hf : f.bytes.length ≤ K' ∧ f.kept ≤ f.bytes.length) (e : x'.files = x.files) (e2 : x'.most = x.most := by rfl) : RfOk K' (x'.set k f) := ⟨(show 0 ≤ x'.most from e2 ▸ h.1), fun g hg => by
  rcases List.mem_or_eq_of_mem_set (show g ∈ x'.files.set k f from hg) with h1 | h1
  · exact ⟨Nat.le_trans (h.2 g (e ▸ h1)).1 hK, (h.2 g (e ▸ h1)).2⟩
  · rw [h1]; exact hf⟩
theorem RfOk.at (h : RfOk K x) (k : Nat) : (x.files.getD k ⟨[], 0⟩).bytes.length ≤ K ∧ (x.files.getD k ⟨[], 0⟩).kept ≤ (x.files.getD k ⟨[], 0⟩).bytes.length := by
  rw [List.getD_eq_getElem?_getD]
  cases hk : x.files[k]? with
  | none => exact ⟨Nat.zero_le _, Nat.le_refl _⟩
  | some f => exact h.2 f (List.mem_of_getElem? hk)
theorem RfOk.new (y : Int) : RfOk 0 (Rf.new y) := ⟨show 0 ≤ min (max y 0) 67108864 by omega, fun f hf => by cases hf⟩
theorem RfOk.create (h : RfOk K x) (n : Nm) : RfOk (K + 1) (x.create n).1 := by
  unfold Rf.create
  split
  · exact h.of rfl (Nat.le_succ _)
  · split
    · exact h.of rfl (Nat.le_succ _)
    · split
      · exact h.of rfl (Nat.le_succ _)
      · split
        · exact h.of rfl (Nat.le_succ _)
        · refine h.thing (Nat.le_succ _) ⟨(show 0 ≤ x.thing.1.most from thing_most x ▸ h.1), fun f hf => ?_⟩
          rcases List.mem_append.1 (show f ∈ x.files ++ [(⟨[], 0⟩ : Fl)] from hf) with h1 | h1
          · exact ⟨Nat.le_succ_of_le (h.2 f h1).1, (h.2 f h1).2⟩
          · rw [List.mem_singleton.1 h1]; exact ⟨Nat.zero_le _, Nat.le_refl _⟩
theorem RfOk.append (h : RfOk K x) (n : Nm) (b : List UInt8) : RfOk (K + b.length) (x.append n b).1 := by
  unfold Rf.append
  split
  · exact h.of rfl (Nat.le_add_right _ _)
  · split
    · exact h.of rfl (Nat.le_add_right _ _)
    · rename_i f hf
      split
      · exact h.of rfl (Nat.le_add_right _ _)
      · refine h.thing (Nat.le_add_right _ _) (h.set (Nat.le_add_right _ _) ?_ (thing_files x) (thing_most x))
        have := h.at f
        dsimp only
        rw [List.length_append]
        omega
theorem RfOk.sync (h : RfOk K x) (n : Nm) : RfOk K (x.sync n).1 := by
  unfold Rf.sync
  split
  · exact h
  · split
    · exact h
    · rename_i f hf
      exact h.thing (Nat.le_refl _) (h.set (Nat.le_refl _) ⟨(h.at f).1, Nat.le_refl _⟩ (thing_files x) (thing_most x))
theorem RfOk.rename (h : RfOk K x) (n to : Nm) : RfOk K (x.rename n to).1 := by
  unfold Rf.rename
  split
  · exact h
  · split
    · exact h
    · split
      · exact h
      · exact h.thing (Nat.le_refl _) (h.of (thing_files x) (Nat.le_refl _) (thing_most x))
theorem RfOk.remove (h : RfOk K x) (n : Nm) : RfOk K (x.remove n).1 := by
  unfold Rf.remove
  split
  · exact h
  · split
    · exact h
    · exact h.thing (Nat.le_refl _) (h.of (thing_files x) (Nat.le_refl _) (thing_most x))
theorem RfOk.syncDir (h : RfOk K x) : RfOk K x.syncDir.1 := by
  unfold Rf.syncDir
  split
  · exact h
  · exact h.thing (Nat.le_refl _) (h.of (thing_files x) (Nat.le_refl _) (thing_most x))
theorem RfOk.boot (h : RfOk K x) (dirs : Int) (l : List Int) : RfOk K (x.boot dirs l) := ⟨h.1, fun f hf => by
  obtain ⟨i, hi, e⟩ := List.mem_mapIdx.1 (show f ∈ x.files.mapIdx fun i f => f.lose (more l i) from hf)
  have h1 := h.2 _ (List.getElem_mem hi)
  rw [← e]
  unfold Fl.lose
  dsimp only
  rw [List.length_take]
  omega⟩
theorem RfOk.flip (h : RfOk K x) (n : Nm) (y : Int) (z : Nat) : RfOk K (x.flip n y z).1 := by
  unfold Rf.flip
  split
  · exact h
  · rename_i f hf
    split
    · exact h
    · exact h.set (Nat.le_refl _) (by dsimp only; rw [flipT_length]; exact h.at f) rfl
end

/-- Names are short. -/
def chSmall : Ch → Prop
  | .made n _ => n.length ≤ 16
  | .moved _ to => to.length ≤ 16
  | .taken _ => True
def NmOk (m : Dk) : Prop := (∀ p ∈ m.kept, p.1.length ≤ 16) ∧ ∀ c ∈ m.pend, chSmall c
section
variable {K K' : Nat} {x x' : Rf} {m m' : Dk}
theorem mem_put {n : Nm} {f : Nat} {l : Dir} {p : Nm × Nat} (h : p ∈ Dir.put n f l) : p = (n, f) ∨ p ∈ l := by
  rcases mem_ins h with h | h
  · exact .inl h
  · exact .inr (mem_del.1 h).1
theorem on_small {c : Ch} {l : Dir} (hc : chSmall c) (h : ∀ p ∈ l, p.1.length ≤ 16) : ∀ p ∈ c.on l, p.1.length ≤ 16 := by
  cases c with
  | made n f =>
    intro p hp
    rcases mem_put (show p ∈ Dir.put n f l from hp) with rfl | h1
    · exact hc
    · exact h p h1
  | taken n => exact fun p hp => h p (mem_del.1 (show p ∈ Dir.del n l from hp)).1
  | moved n to =>
    show ∀ p ∈ (match Dir.find n l with | some f => Dir.put to f (Dir.del n l) | none => l), _
    cases Dir.find n l with
    | none => exact h
    | some f =>
      intro p hp
      rcases mem_put (show p ∈ Dir.put to f (Dir.del n l) from hp) with rfl | h1
      · exact hc
      · exact h p (mem_del.1 h1).1
theorem redo_small : ∀ (cs : List Ch) {l : Dir}, (∀ c ∈ cs, chSmall c) → (∀ p ∈ l, p.1.length ≤ 16) → ∀ p ∈ redo cs l, p.1.length ≤ 16
  | [], _, _, h => h
  | c :: cs, l, hc, h => redo_small cs (l := c.on l) (fun d hd => hc d (List.mem_cons_of_mem _ hd)) (on_small (hc c List.mem_cons_self) h)
theorem right_small {n : Nm} (h : ¬ right n = false) : n.length ≤ 16 := by
  rw [Bool.not_eq_false] at h
  unfold right at h
  rw [Bool.and_eq_true, decide_eq_true_eq, decide_eq_true_eq] at h
  exact h.2
theorem NmOk.of (h : NmOk m) (h1 : m'.kept = m.kept) (h2 : m'.pend = m.pend) : NmOk m' := ⟨h1 ▸ h.1, h2 ▸ h.2⟩
theorem NmOk.thing (h : NmOk m) {does : Dk → Dk} (hd : NmOk (does m.sooner)) : NmOk (m.thing does).1 := by
  unfold Dk.thing
  split
  · exact h
  · split
    · exact h.of rfl rfl
    · split
      · exact h.of rfl rfl
      · exact hd.of rfl rfl
theorem NmOk.change (h : NmOk m) {c : Ch} (hc : chSmall c) (h1 : m'.kept = m.kept) (h2 : m'.pend = m.pend) : NmOk (m'.change c) := ⟨h1 ▸ h.1, fun d hd => by
  rcases List.mem_append.1 (show d ∈ m'.pend ++ [c] from hd) with h3 | h3
  · exact h.2 d (h2 ▸ h3)
  · rw [List.mem_singleton.1 h3]; exact hc⟩
theorem NmOk.new (y : Int) : NmOk (Dk.new y) := ⟨fun p hp => (by cases hp), fun c hc => (by cases hc)⟩
theorem NmOk.create (h : NmOk m) (n : Nm) : NmOk (m.create n).1 := by
  unfold Dk.create
  split
  · exact h
  · split
    · exact h
    · rename_i hr
      split
      · exact h
      · split
        · exact h
        · exact h.thing (h.change (c := .made n m.sooner.made) (right_small hr) rfl rfl)
theorem NmOk.append (h : NmOk m) (n : Nm) (b : List UInt8) : NmOk (m.append n b).1 := by
  unfold Dk.append
  split
  · exact h
  · split
    · exact h
    · split
      · exact h
      · exact h.thing (h.of rfl rfl)
theorem NmOk.sync (h : NmOk m) (n : Nm) : NmOk (m.sync n).1 := by
  unfold Dk.sync
  split
  · exact h
  · split
    · exact h
    · exact h.thing (h.of rfl rfl)
theorem NmOk.rename (h : NmOk m) (n to : Nm) : NmOk (m.rename n to).1 := by
  unfold Dk.rename
  split
  · exact h
  · split
    · exact h
    · split
      · exact h
      · rename_i hr
        exact h.thing (h.change (c := .moved n to) (right_small fun e => hr (.inl e)) rfl rfl)
theorem NmOk.remove (h : NmOk m) (n : Nm) : NmOk (m.remove n).1 := by
  unfold Dk.remove
  split
  · exact h
  · split
    · exact h
    · exact h.thing (h.change (c := .taken n) trivial rfl rfl)
theorem NmOk.keep (h : NmOk m) (k : Nat) (h1 : m'.kept = m.kept) (h2 : m'.pend = m.pend) : NmOk (m'.keep k) :=
  ⟨redo_small _ (fun c hc => h.2 c (h2 ▸ List.mem_of_mem_take hc)) (h1 ▸ h.1), fun c hc => (by cases hc)⟩
theorem NmOk.syncDir (h : NmOk m) : NmOk m.syncDir.1 := h.thing (h.keep _ rfl rfl)
theorem NmOk.boot (h : NmOk m) (dirs : Int) (l : List Int) : NmOk (m.boot dirs l) := (h.keep (min (max dirs 0) (m.pend.length : Int)).toNat rfl rfl).of rfl rfl
theorem NmOk.flip (h : NmOk m) (n : Nm) (y : Int) (z : Nat) : NmOk (m.flip n y z).1 := by
  unfold Dk.flip
  split
  · exact h
  · split
    · exact h
    · exact h.of rfl rfl
end

/-- Both disks go together, and nothing of them is more than K. -/
structure G2 (K : Nat) (m : Dk) (x : Rf) : Prop where
  gl : Gl m x
  ok : DkOk K m
  rk : RfOk K x
  nm : NmOk m
section
variable {K K' : Nat} {x : Rf} {m : Dk}
theorem G2.new (y : Int) : G2 0 (Dk.new y) (Rf.new y) := ⟨Gl.new y, DkOk.new y, RfOk.new y, NmOk.new y⟩
theorem G2.mono (h : G2 K m x) (hK : K ≤ K') : G2 K' m x := ⟨h.gl, h.ok.mono hK, h.rk.of rfl hK, h.nm⟩
theorem G2.fit (h : G2 K m x) (hK : K ≤ 100000) : RfFit x where
  nums := by
    refine ⟨?_, ?_⟩
    · rw [h.gl.cut]; exact h.ok.cut
    · rw [h.gl.fail]; exact h.ok.fail
  files := by rw [h.gl.len]; exact Nat.le_trans h.ok.made hK
  names := by rw [h.gl.names]; exact Nat.le_trans h.ok.names hK
  kept := by rw [h.gl.kept]; have := h.ok.pend; omega
  pend := by rw [h.gl.pend]; have := h.ok.pend; omega
  idx := fun p hp => by
    rw [h.gl.len]
    rw [h.gl.names] at hp
    exact h.gl.lt p.2 (h.gl.valN.2 p.2 (List.mem_map.2 ⟨p, hp, rfl⟩))
  bytes := fun f hf => ⟨Nat.le_trans (h.rk.2 f hf).1 hK, (h.rk.2 f hf).2⟩
theorem G2.names (h : G2 K m x) : ∀ p ∈ m.names, p.1.length ≤ 16 := by rw [h.gl.redo]; exact redo_small _ h.nm.2 h.nm.1
theorem G2.mosts (h : G2 K m x) : 0 ≤ x.most ∧ x.most ≤ 100000000000 := ⟨h.rk.1, by rw [h.gl.most]; have := h.gl.top; omega⟩
theorem G2.sum (h : G2 K m x) (hK : K ≤ 100000) : x.kept.length + x.pend.length ≤ 100000 := by
  rw [h.gl.kept, h.gl.pend]; exact Nat.le_trans h.ok.pend hK
theorem G2.create (h : G2 K m x) (hK : K ≤ 100000) (n : Nm) : (x.create n).2 = (m.create n).2 ∧ G2 (K + 1) (m.create n).1 (x.create n).1 :=
  ⟨(h.gl.create n).1, (h.gl.create n).2, h.ok.create n, h.rk.create n, h.nm.create n⟩
theorem G2.append (h : G2 K m x) (hK : K ≤ 100000) (n : Nm) (b : List UInt8) (hb : b.length ≤ 1000000000) : (x.append n b).2 = (m.append n b).2 ∧ G2 (K + b.length) (m.append n b).1 (x.append n b).1 :=
  ⟨(h.gl.append h.ok hK n b hb).1, (h.gl.append h.ok hK n b hb).2, h.ok.append n b, h.rk.append n b, h.nm.append n b⟩
theorem G2.sync (h : G2 K m x) (n : Nm) : (x.sync n).2 = (m.sync n).2 ∧ G2 K (m.sync n).1 (x.sync n).1 :=
  ⟨(h.gl.sync n).1, (h.gl.sync n).2, h.ok.sync n, h.rk.sync n, h.nm.sync n⟩
theorem G2.rename (h : G2 K m x) (hK : K ≤ 100000) (n to : Nm) : (x.rename n to).2 = (m.rename n to).2 ∧ G2 (K + 1) (m.rename n to).1 (x.rename n to).1 :=
  ⟨(h.gl.rename h.ok hK n to).1, (h.gl.rename h.ok hK n to).2, h.ok.rename n to, (h.rk.rename n to).of rfl (Nat.le_succ _), h.nm.rename n to⟩
theorem G2.remove (h : G2 K m x) (hK : K ≤ 100000) (n : Nm) : (x.remove n).2 = (m.remove n).2 ∧ G2 (K + 1) (m.remove n).1 (x.remove n).1 :=
  ⟨(h.gl.remove h.ok hK n).1, (h.gl.remove h.ok hK n).2, h.ok.remove n, (h.rk.remove n).of rfl (Nat.le_succ _), h.nm.remove n⟩
theorem G2.syncDir (h : G2 K m x) : x.syncDir.2 = m.syncDir.2 ∧ G2 K m.syncDir.1 x.syncDir.1 :=
  ⟨h.gl.syncDir.1, h.gl.syncDir.2, h.ok.syncDir, h.rk.syncDir, h.nm.syncDir⟩
theorem G2.fails (h : G2 K m x) (y : Int) (hy : y ≤ 9223372036854775807) : G2 K (m.setFail y) (x.setFail y) :=
  ⟨h.gl.nums rfl rfl rfl rfl rfl rfl rfl rfl rfl rfl rfl rfl h.gl.did (by show (if 0 ≤ y then y else x.fail) = if 0 ≤ y then y else m.fail; rw [h.gl.fail]) h.gl.cut h.gl.down, h.ok.fails y hy, h.rk, h.nm⟩
theorem G2.cuts (h : G2 K m x) (y : Int) (hy : y ≤ 9223372036854775807) : G2 K (m.setCut y) (x.setCut y) :=
  ⟨h.gl.nums rfl rfl rfl rfl rfl rfl rfl rfl rfl rfl rfl rfl h.gl.did h.gl.fail (by show (if 0 ≤ y then y else x.cut) = if 0 ≤ y then y else m.cut; rw [h.gl.cut]) h.gl.down, h.ok.cuts y hy, h.rk, h.nm⟩
theorem G2.boot (h : G2 K m x) (hK : K ≤ 100000) (dirs : Int) (l : List Int) : G2 K (m.boot dirs l) (x.boot dirs l) := ⟨h.gl.boot h.ok hK dirs l, h.ok.boot dirs l, h.rk.boot dirs l, h.nm.boot dirs l⟩
theorem G2.flip (h : G2 K m x) (n : Nm) (y : Int) (z : Nat) : (x.flip n y z).2 = (m.flip n y z).2 ∧ G2 K (m.flip n y z).1 (x.flip n y z).1 := ⟨(h.gl.flip n y z).1, (h.gl.flip n y z).2, h.ok.flip n y z, h.rk.flip n y z, h.nm.flip n y z⟩
/-! What is told of both is the same. -/
theorem G2.sizes (h : G2 K m x) (n : Nm) : x.size n = m.size n := by
  unfold Rf.size Dk.size Rf.len
  rw [h.gl.names]
  cases hf : Dir.find n m.names with
  | none => rfl
  | some f => dsimp only; rw [(h.gl.file hf).1]
theorem G2.sized (h : G2 K m x) (n : Nm) : 0 ≤ (m.size n).1 ∧ (m.size n).1 ≤ K := by
  unfold Dk.size
  cases hf : Dir.find n m.names with
  | none => exact ⟨Int.le_refl _, Int.natCast_nonneg _⟩
  | some f =>
    have := (h.ok.bytes f (h.gl.file hf).2).1
    exact ⟨Int.natCast_nonneg _, by dsimp only; omega⟩
theorem G2.reads (h : G2 K m x) (n : Nm) (y k : Int) (hy : -9223372036854775808 ≤ y ∧ y ≤ 9223372036854775807) (hk : -9223372036854775808 ≤ k ∧ k ≤ 9223372036854775807) (hK : K ≤ 100000) : x.read n y k = m.read n y k := by
  unfold Rf.read Dk.read Rf.len
  rw [h.gl.names, h.gl.down]
  split
  · rfl
  · cases hf : Dir.find n m.names with
    | none => rfl
    | some f => dsimp only; rw [(h.gl.file hf).1]
end

/-- Both disks, and blocks that are neither's own. -/
def Two (B : Nat) (w0 w : World) (d r : Nat) (out : Nat → Prop) (m : Dk) (x : Rf) : Prop :=
  ∃ ro fv nv kv pv, RfAt w r ro x fv nv kv pv ∧ (∀ k, ro k → B ≤ k ∧ ¬ out k) ∧ DkIn B w0 w d (fun k => ro k ∨ out k) m
section
variable {B d r K : Nat} {w0 w w' : World} {out : Nat → Prop} {m m' : Dk} {x x' : Rf}
theorem Two.low (h : Two B w0 w d r out m x) : Below B w0 w := by obtain ⟨_, _, _, _, _, _, _, h⟩ := h; exact h.low
theorem Two.size (h : Two B w0 w d r out m x) : B ≤ w.heap.size := by obtain ⟨_, _, _, _, _, _, _, h⟩ := h; exact h.size
theorem Two.lt (h : Two B w0 w d r out m x) {k : Nat} (hk : out k) : k < w.heap.size := by obtain ⟨_, _, _, _, _, _, _, h⟩ := h; exact h.lt (.inr hk)
theorem Two.grow (h : Two B w0 w d r out m x) (hg : Grows w w') : Two B w0 w' d r out m x := by
  obtain ⟨ro, fv, nv, kv, pv, h1, h2, h3⟩ := h
  exact ⟨ro, fv, nv, kv, pv, h1.grow hg, h2, h3.grow hg⟩
theorem Two.less {out' : Nat → Prop} (h : Two B w0 w d r out m x) (ho : ∀ k, out' k → out k) : Two B w0 w d r out' m x := by
  obtain ⟨ro, fv, nv, kv, pv, h1, h2, h3⟩ := h
  exact ⟨ro, fv, nv, kv, pv, h1, fun k hk => ⟨(h2 k hk).1, fun e => (h2 k hk).2 (ho k e)⟩, h3.less fun k hk => hk.imp id (ho k)⟩
theorem Two.more (h : Two B w0 w d r out m x) (hg : Grows w w') : Two B w0 w' d r (fun k => out k ∨ (w.heap.size ≤ k ∧ k < w'.heap.size)) m x := by
  obtain ⟨ro, fv, nv, kv, pv, h1, h2, h3⟩ := h
  refine ⟨ro, fv, nv, kv, pv, h1.grow hg, fun k hk => ⟨(h2 k hk).1, fun e => ?_⟩, (h3.more hg).less fun k hk => by
    rcases hk with hk | hk | hk
    · exact .inl (.inl hk)
    · exact .inl (.inr hk)
    · exact .inr hk⟩
  have := h1.lt k hk
  rcases e with e | e
  · exact (h2 k hk).2 e
  · omega
theorem Two.new {y : Int} {w1 w2 : World} (h : DkNew w d w1 (Dk.new y)) (hB : B ≤ w.heap.size) (hb : Below B w0 w) (h1 : RfAt w2 w1.heap.size (fun k => k = w1.heap.size) (Rf.new y) (.slice none 0 0) (.slice none 0 0) (.slice none 0 0) (.slice none 0 0)) (hg : Grows w1 w2) :
    Two B w0 w2 d w1.heap.size (fun _ => False) (Dk.new y) (Rf.new y) := by
  have h2 : DkIn B w0 w1 d (fun _ => False) (Dk.new y) := DkIn.new h hB hb fun k hk => hk.elim
  refine ⟨_, _, _, _, _, h1, fun k hk => ⟨by have := h2.size; have := hk; omega, id⟩, (h2.more hg).less fun k hk => ?_⟩
  rcases hk with hk | hk
  · refine .inr ⟨by omega, ?_⟩
    rw [hk]; exact h1.top.lt
  · exact hk.elim
/-- A call of the program's. -/
theorem Two.dop {f : FuncId} {args : Array Value} {v : Ending} (h : Two B w0 w d r out m x) (hc : ∀ out', (∀ k, out k → out' k) → DkIn B w0 w d out' m → Calls Tryz.prog f args w fun e w' => e = v ∧ DkIn B w0 w' d out' m' ∧ Stays B out' w w') :
    Calls Tryz.prog f args w fun e w' => e = v ∧ Two B w0 w' d r out m' x ∧ Stays B out w w' := by
  obtain ⟨ro, fv, nv, kv, pv, h1, h2, h3⟩ := h
  refine (hc _ (fun k hk => .inr hk) h3).mono ?_
  rintro e w' ⟨rfl, h4, h5⟩
  exact ⟨rfl, ⟨ro, fv, nv, kv, pv, h1.stay (fun k hk => h5.same k (h1.lt k hk) fun e => e.2 (.inl hk)) h5.size, h2, h4⟩, h5.wider fun k _ hk => ⟨hk.1, fun e => hk.2 (.inr e)⟩⟩
/-- A call of the document's. -/
theorem Two.rop {f : FuncId} {args : Array Value} {v : Ending} (h : Two B w0 w d r out m x) (hc : ∀ ro fv nv kv pv, RfAt w r ro x fv nv kv pv → (∀ k, ro k → B ≤ k ∧ ¬ out k) → Calls Tryz.prog f args w fun e w' => e = v ∧ RfTo w r ro w' x') :
    Calls Tryz.prog f args w fun e w' => e = v ∧ Two B w0 w' d r out m x' ∧ Stays B out w w' := by
  obtain ⟨ro, fv, nv, kv, pv, h1, h2, own, G, k1, k2, k3, k4, k5, k6⟩ := h
  refine (hc ro fv nv kv pv h1 h2).mono ?_
  rintro e w' ⟨rfl, ro', fv', nv', kv', pv', g1, g2, g3⟩
  have hs : Stays B out w w' := g2.wider fun k _ hk => h2 k hk
  have hdl := k1.top.lt
  refine ⟨rfl, ⟨ro', fv', nv', kv', pv', g1, fun k hk => ?_, own, G, k1.spare g2 fun k hk e => ?_, k2, k3, k4.trans (g2.below k5 fun k hk e => by have := (h2 k e).1; omega), Nat.le_trans k5 g2.size, fun k hk => ?_⟩, hs⟩
  · rcases g3 k hk with e | e
    · exact h2 k e
    · exact ⟨Nat.le_trans k5 e, fun ho => by have := (k6 k (.inr ho)).1; omega⟩
  · have := k6 k (.inl e)
    rcases hk with hk | hk
    · exact this.2.1 hk
    · exact this.2.2 hk
  · rcases hk with hk | hk
    · refine ⟨g1.lt k hk, ?_⟩
      rcases g3 k hk with e | e
      · exact (k6 k (.inl e)).2
      · exact ⟨fun e2 => by omega, fun e2 => by have := k1.rest.lt k e2; omega⟩
    · have := k6 k (.inr hk)
      exact ⟨Nat.lt_of_lt_of_le this.1 g2.size, this.2⟩
/-- What is only asked. -/
theorem Two.dk (h : Two B w0 w d r out m x) : ∃ out', DkIn B w0 w d out' m := by obtain ⟨_, _, _, _, _, _, _, h⟩ := h; exact ⟨_, h⟩
theorem Two.rf (h : Two B w0 w d r out m x) : ∃ ro fv nv kv pv, RfAt w r ro x fv nv kv pv := by obtain ⟨ro, fv, nv, kv, pv, h, _⟩ := h; exact ⟨ro, fv, nv, kv, pv, h⟩
end
end Go.Proofs.YtdkpbphgaenlnaaGreat

/-
  A call of both disks: it is answered alike, and they go together behind it.
-/
namespace Go.Proofs.YtdkpbphgaenlnaaGreat
open Go.RowKit
set_option linter.unusedVariables false
set_option linter.unusedSimpArgs false
def o8on (o : O8) (m : Dk) : Dk :=
  if o.what = 0 then (m.create o.name).1 else if o.what = 1 then (m.append o.name o.b).1 else if o.what = 2 then (m.append o.name o.b).1 else if o.what = 3 then (m.sync o.name).1 else if o.what = 4 then (m.rename o.name o.to).1
  else if o.what = 5 then (m.remove o.name).1 else if o.what = 6 then m.syncDir.1 else if o.what = 7 then m.setFail o.n else if o.what = 8 then m.setCut o.n else if o.what = 9 then m.boot o.n o.bytes else if o.what = 10 then (m.flip o.name o.n o.bits.toNat).1 else m
section
variable {B d r K : Nat} {w0 w w' : World} {out : Nat → Prop} {m m' : Dk} {x x' : Rf}
/-- A block of another's, behind a call of the program's. -/
theorem Two.dcall {f : FuncId} {args : Array Value} {v : Ending} {t : TypeId} {cs : Array Value} (h : Two B w0 w d r out m x) (hc : ∀ w1, w.alloc (.cells cs t) = w1 → ∀ out', DkIn B w0 w1 d out' m → Calls Tryz.prog f args w1 fun e w' => e = v ∧ DkIn B w0 w' d out' m' ∧ Stays B out' w1 w') :
    Calls Tryz.prog f args (w.alloc (.cells cs t)) fun e w' => e = v ∧ Two B w0 w' d r (fun k => out k ∨ k = w.heap.size) m' x ∧ Whole w' w.heap.size t cs ∧ Stays B out w w' := by
  have h1 : Two B w0 (w.alloc (.cells cs t)) d r (fun k => out k ∨ k = w.heap.size) m x := (h.more (grows_alloc w (.cells cs t))).less fun k hk => hk.imp id fun e => by rw [World.size_alloc]; omega
  refine (h1.dop fun out' _ h2 => hc _ rfl out' h2).mono ?_
  rintro e w' ⟨rfl, h3, h4⟩
  exact ⟨rfl, h3, (Whole.made w t cs).same (h4.same _ (by rw [World.size_alloc]; omega) fun e => e.2 (.inr rfl)), (Stays.grows (grows_alloc w (.cells cs t))).trans (h4.wider fun k _ hk => ⟨hk.1, fun e => hk.2 (.inl e)⟩)⟩
/-- The same, where nothing is called of the program's. -/
theorem Two.back (h : Two B w0 w d r (fun k => out k ∨ k = w'.heap.size) m x) : Two B w0 w d r out m x := h.less fun k hk => .inl hk

end
end Go.Proofs.YtdkpbphgaenlnaaGreat

/-
  Both disks have the same files: the law's own look at both.
-/
namespace Go.Proofs.YtdkpbphgaenlnaaGreat
open Go.RowKit
set_option linter.unusedVariables false
set_option linter.unusedSimpArgs false
theorem RReadTo.got {w w' : World} {r : Option (List UInt8) × Int} {e : Ending} (h : RReadTo w r e w') : GotTo w r e w' := by
  unfold RReadTo at h
  unfold GotTo
  cases hr : r.1 with
  | none =>
    rw [hr] at h
    obtain ⟨h1, h2⟩ := h
    exact ⟨none, 0, h1, Sl.nil _, h2⟩
  | some bs =>
    rw [hr] at h
    obtain ⟨A, c, h1, h2, h3⟩ := h
    exact ⟨A, c, h1, h2, h3⟩
section
variable {B d r K : Nat} {w0 w w' : World} {out : Nat → Prop} {m : Dk} {x : Rf}
/-! What is asked of either, told alike. -/
theorem Two.list (h : Two B w0 w d r out m x) (hG : G2 K m x) (hK : K ≤ 100000) : Calls Tryz.prog 25 #[.pointer (some ⟨d, 0, none⟩)] w fun e w' => ∃ A c, e = .returned (.slice A m.names.length c) ∧ Row w' w'.heap.size A m.names.length ((m.names.map (·.1)).map strB) ∧ Grows w w' := by
  obtain ⟨out', h1⟩ := h.dk
  refine (list_in h1 hG.ok (by omega)).mono ?_
  rintro e w' ⟨A, c, rfl, hr, hg⟩
  exact ⟨A, c, rfl, Row.owned hr, hg⟩
theorem Two.listR (h : Two B w0 w d r out m x) (hG : G2 K m x) (hK : K ≤ 100000) : Calls Tryz.prog 26 #[.pointer (some ⟨r, 0, none⟩)] w fun e w' => ∃ A c, e = .returned (.slice A m.names.length c) ∧ Row w' w'.heap.size A m.names.length ((m.names.map (·.1)).map strB) ∧ Grows w w' := by
  obtain ⟨ro, fv, nv, kv, pv, h1⟩ := h.rf
  refine (rlist_any w h1 (hG.fit hK)).mono ?_
  rintro e w' ⟨A, c, rfl, hr, hg⟩
  rw [hG.gl.names, List.length_map] at *
  exact ⟨A, c, rfl, hr, hg⟩
theorem Two.used (h : Two B w0 w d r out m x) : Calls Tryz.prog 27 #[.pointer (some ⟨d, 0, none⟩)] w fun e w' => e = .returned (.int .i64 m.used) ∧ w = w' := by
  obtain ⟨out', h1⟩ := h.dk
  exact used_in h1
theorem Two.usedR (h : Two B w0 w d r out m x) (hG : G2 K m x) (hK : K ≤ 100000) : Calls Tryz.prog 28 #[.pointer (some ⟨r, 0, none⟩)] w fun e w' => e = .returned (.int .i64 m.used) ∧ Grows w w' := by
  obtain ⟨ro, fv, nv, kv, pv, h1⟩ := h.rf
  rw [hG.gl.usedR]
  exact rused_any w h1 (hG.fit hK)
theorem Two.downR (h : Two B w0 w d r out m x) (hG : G2 K m x) : Calls Tryz.prog 76 #[.pointer (some ⟨r, 0, none⟩)] w fun e w' => e = .returned (.bool m.down) ∧ w = w' := by
  obtain ⟨ro, fv, nv, kv, pv, h1⟩ := h.rf
  rw [← hG.gl.down]
  exact rdown_any w h1
theorem Two.done (h : Two B w0 w d r out m x) : Calls Tryz.prog 29 #[.pointer (some ⟨d, 0, none⟩)] w fun e w' => e = .returned (.int .i64 m.done) ∧ w = w' := by
  obtain ⟨out', h1⟩ := h.dk
  exact done_in h1
theorem Two.doneR (h : Two B w0 w d r out m x) (hG : G2 K m x) : Calls Tryz.prog 30 #[.pointer (some ⟨r, 0, none⟩)] w fun e w' => e = .returned (.int .i64 m.done) ∧ w = w' := by
  obtain ⟨ro, fv, nv, kv, pv, h1⟩ := h.rf
  rw [← hG.gl.did]
  exact rdone_any w h1
theorem Two.sized (h : Two B w0 w d r out m x) {n : Nm} (hn : n.length ≤ 1000000) {v : Int} {b : Bool} (hv : m.size n = (v, b)) : Calls Tryz.prog 74 #[.pointer (some ⟨d, 0, none⟩), .string ⟨n.toArray⟩] w fun e w' => e = .returned (.tuple #[.int .i64 v, .bool b]) ∧ w = w' := by
  obtain ⟨out', h1⟩ := h.dk
  exact size_in n h1 hn hv
theorem Two.sizedR (h : Two B w0 w d r out m x) (hG : G2 K m x) (hK : K ≤ 100000) {n : Nm} {v : Int} {b : Bool} (hv : m.size n = (v, b)) : Calls Tryz.prog 51 #[.pointer (some ⟨r, 0, none⟩), .string ⟨n.toArray⟩] w fun e w' => e = .returned (.tuple #[.int .i64 v, .bool b]) ∧ Grows w w' := by
  obtain ⟨ro, fv, nv, kv, pv, h1⟩ := h.rf
  have := rsize_any w n h1 (hG.fit hK)
  rw [hG.sizes, hv] at this
  exact this
theorem Two.reads (h : Two B w0 w d r out m x) (hG : G2 K m x) (hK : K ≤ 100000) {n : Nm} (y k : Int) (hn : n.length ≤ 1000000) (hy : -9223372036854775808 ≤ y ∧ y ≤ 9223372036854775807) (hk : -9223372036854775808 ≤ k ∧ k ≤ 9223372036854775807) {v : Option (List UInt8) × Int} (hv : m.read n y k = v) :
    Calls Tryz.prog 75 #[.pointer (some ⟨d, 0, none⟩), .string ⟨n.toArray⟩, .int .i64 y, .int .i64 k] w fun e w' => GotTo w v e w' := by
  obtain ⟨out', h1⟩ := h.dk
  exact (read_in n y k h1 hG.ok (by omega) hn hy hk hv).mono fun e w' h => h.got
theorem Two.readsR (h : Two B w0 w d r out m x) (hG : G2 K m x) (hK : K ≤ 100000) {n : Nm} (y k : Int) (hy : -9223372036854775808 ≤ y ∧ y ≤ 9223372036854775807) (hk : -9223372036854775808 ≤ k ∧ k ≤ 9223372036854775807) {v : Option (List UInt8) × Int} (hv : m.read n y k = v) :
    Calls Tryz.prog 77 #[.pointer (some ⟨r, 0, none⟩), .string ⟨n.toArray⟩, .int .i64 y, .int .i64 k] w fun e w' => GotTo w v e w' := by
  obtain ⟨ro, fv, nv, kv, pv, h1⟩ := h.rf
  have := rread_any w n y k h1 (hG.fit hK) hy hk
  rw [hG.reads n y k hy hk hK, hv] at this
  exact this.mono fun e w' h => h.got

end
end Go.Proofs.YtdkpbphgaenlnaaGreat

