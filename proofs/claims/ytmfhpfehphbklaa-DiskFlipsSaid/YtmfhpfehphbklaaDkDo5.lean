/-
  The things done to a file that is there: Append, Sync, Rename, Remove.
-/
import Derived.Test.YtmfhpfehphbklaaDkDo4
namespace Go.Proofs.Ytmfhpfehphbklaa
open Go.RowKit Go.Maps Go.WideMaps
set_option linter.unusedVariables false
set_option linter.unusedSimpArgs false
attribute [local irreducible] Go.wpQuiet

section
variable {w : World} {d : Nat} {own : Nat → Prop} {G : Geo} {m : Dk}

/-- What find tells, in three ways. -/
theorem find_down (w : World) {n : Nm} (h : DkAt w d own G m) (hn : n.length ≤ maxLen) (hd : m.down = true) : Calls Try.prog 53 #[.pointer (some ⟨d, 0, none⟩), .string ⟨n.toArray⟩] w fun e w' => e = .returned (.tuple #[.pointer none, .int .i64 82]) ∧ w = w' := by
  have := find_any w h hn
  rwa [hd] at this
theorem find_none (w : World) {n : Nm} (h : DkAt w d own G m) (hn : n.length ≤ maxLen) (hd : m.down = false) (hf : Dir.find n m.names = none) : Calls Try.prog 53 #[.pointer (some ⟨d, 0, none⟩), .string ⟨n.toArray⟩] w fun e w' => e = .returned (.tuple #[.pointer none, .int .i64 3]) ∧ w = w' := by
  have := find_any w h hn
  rw [hd, hf, fileV_none hf] at this
  exact this
theorem find_some (w : World) {n : Nm} {f : Nat} (h : DkAt w d own G m) (hn : n.length ≤ maxLen) (hd : m.down = false) (hf : Dir.find n m.names = some f) : Calls Try.prog 53 #[.pointer (some ⟨d, 0, none⟩), .string ⟨n.toArray⟩] w fun e w' => e = .returned (.tuple #[.pointer (some ⟨G.loc f, 0, none⟩), .int .i64 0]) ∧ w = w' := by
  have := find_any w h hn
  rw [hd, hf, fileV_some hf] at this
  exact this

set_option maxHeartbeats 8000000 in
set_option maxRecDepth 100000 in
theorem sync_any (w : World) (n : Nm) (h : DkAt w d own G m) (hF : DkFit m) (hn : n.length ≤ maxLen) : Calls Try.prog 28 #[.pointer (some ⟨d, 0, none⟩), .string ⟨n.toArray⟩] w fun e w' => Did w d own (m.sync n) e w' := by
  have HDK := Lib.hid h
  unfold Dk.sync
  cases hd : m.down with
  | true =>
    have HFI := Lib.hid (find_down w h hn hd)
    rw [if_pos rfl]
    clear h hF hn hd
    go_enter Try.func28, Try.ntmps28
    go_wp2_with (fail)
    refine HFI.out.mono ?_
    rintro e w2 ⟨rfl, rfl⟩
    go_wp2_with (fail)
    go_ret
    exact Did.none HDK.out (Grows.refl _) 82
  | false =>
  rw [if_neg (by decide)]
  cases hf : Dir.find n m.names with
  | none =>
    have HFI := Lib.hid (find_none w h hn hd hf)
    dsimp only
    clear h hF hn hd hf
    go_enter Try.func28, Try.ntmps28
    go_wp2_with (fail)
    refine HFI.out.mono ?_
    rintro e w2 ⟨rfl, rfl⟩
    go_wp2_with (fail)
    go_ret
    exact Did.none HDK.out (Grows.refl _) 3
  | some f =>
    have HFI := Lib.hid (find_some w h hn hd hf)
    have hlt := h.find_lt hn hf
    have HT := Lib.hid (thing_any w h hF.cut hF.fail 55 #[.pointer (some ⟨G.loc f, 0, none⟩)] #[] (fun args w => by kernel_rfl) (Dk.doSync f) fun _ hc hx w1 h1 s1 => sync_do w1 h1 hlt)
    dsimp only
    clear h hF hn hd hf hlt
    go_enter Try.func28, Try.ntmps28
    go_wp2_with (fail)
    refine HFI.out.mono ?_
    rintro e w2 ⟨rfl, rfl⟩
    go_wp2_with (fail)
    refine HT.out.mono ?_
    rintro e w4 ⟨rfl, h4⟩
    have H4 := Lib.hid h4
    clear h4 HT
    go_wp2_with (fail)
    go_ret
    exact ⟨rfl, H4.out⟩

set_option maxHeartbeats 8000000 in
set_option maxRecDepth 100000 in
theorem remove_any (w : World) (n : Nm) (h : DkAt w d own G m) (hF : DkFit m) (hn : n.length ≤ 1000000) : Calls Try.prog 37 #[.pointer (some ⟨d, 0, none⟩), .string ⟨n.toArray⟩] w fun e w' => Did w d own (m.remove n) e w' := by
  have hg : Grows w ((w.alloc (.cells #[.pointer (some ⟨d, 0, none⟩)] 40)).alloc (.cells #[.string ⟨n.toArray⟩] 9)) := (grows_alloc _ _).trans (grows_alloc _ _)
  have ha : Whole ((w.alloc (.cells #[.pointer (some ⟨d, 0, none⟩)] 40)).alloc (.cells #[.string ⟨n.toArray⟩] 9)) w.heap.size 40 #[ptrV d] := (Whole.made _ _ _).alloc _
  have hb : Whole ((w.alloc (.cells #[.pointer (some ⟨d, 0, none⟩)] 40)).alloc (.cells #[.string ⟨n.toArray⟩] 9)) (w.heap.size + 1) 9 #[strB n] := by
    have := Whole.made (w.alloc (.cells #[.pointer (some ⟨d, 0, none⟩)] 40)) 9 #[strB n]
    rwa [World.size_alloc] at this
  have hnm : n.length ≤ maxLen := by unfold maxLen; omega
  have h0 := h.grow hg
  have HDK := Lib.hid (And.intro h hg)
  unfold Dk.remove
  cases hd : m.down with
  | true =>
    have HFI := Lib.hid (find_down _ h0 hnm hd)
    rw [if_pos rfl]
    clear h hF ha hb hn hnm h0 hg hd
    go_enter Try.func37, Try.ntmps37
    go_wp2_with (fail)
    refine HFI.out.mono ?_
    rintro e w2 ⟨rfl, rfl⟩
    go_wp2_with (fail)
    go_ret
    exact Did.none HDK.out.1 (HDK.out.2.trans (grows_alloc _ _)) 82
  | false =>
  rw [if_neg (by decide)]
  cases hf : Dir.find n m.names with
  | none =>
    have HFI := Lib.hid (find_none _ h0 hnm hd hf)
    dsimp only
    clear h hF ha hb hn hnm h0 hg hd hf
    go_enter Try.func37, Try.ntmps37
    go_wp2_with (fail)
    refine HFI.out.mono ?_
    rintro e w2 ⟨rfl, rfl⟩
    go_wp2_with (fail)
    go_ret
    exact Did.none HDK.out.1 (HDK.out.2.trans (grows_alloc _ _)) 3
  | some f =>
    have HFI := Lib.hid (find_some _ h0 hnm hd hf)
    have hlt := h.find_lt hnm hf
    have HT := Lib.hid (fun w3 (g3 : Grows ((w.alloc (.cells #[.pointer (some ⟨d, 0, none⟩)] 40)).alloc (.cells #[.string ⟨n.toArray⟩] 9)) w3) (hfc : Whole w3 (w.heap.size + 1 + 1) 91 #[ptrV (G.loc f)]) => thing_any w3 (h0.grow g3) hF.cut hF.fail 65 #[] #[.pointer (some ⟨w.heap.size, 0, none⟩), .pointer (some ⟨w.heap.size + 1 + 1, 0, none⟩), .pointer (some ⟨w.heap.size + 1, 0, none⟩)] (fun args w => by kernel_rfl) (Dk.doRemove f n)
      fun _ hc hx w1 h1 s1 => by
        have hl := h.top.lt
        refine remove_do w1 h1 hlt ((g3.whole ha).same (s1.same _ (g3.whole ha).lt (by omega))) (hfc.same (s1.same _ hfc.lt (by omega))) ((g3.whole hb).same (s1.same _ (g3.whole hb).lt (by omega))) ?_ hn hF.pend hF.names
        rintro k (rfl | rfl | rfl)
        · exact ⟨by omega, fun e => by have := h.rest.lt _ e; omega⟩
        · exact ⟨by omega, fun e => by have := h.rest.lt _ e; omega⟩
        · exact ⟨by omega, fun e => by have := h.rest.lt _ e; omega⟩)
    have WFC : Whole (((w.alloc (.cells #[.pointer (some ⟨d, 0, none⟩)] 40)).alloc (.cells #[.string ⟨n.toArray⟩] 9)).alloc (.cells #[.pointer (some ⟨G.loc f, 0, none⟩)] 91)) (w.heap.size + 1 + 1) 91 #[ptrV (G.loc f)] := by
      have := Whole.made ((w.alloc (.cells #[.pointer (some ⟨d, 0, none⟩)] 40)).alloc (.cells #[.string ⟨n.toArray⟩] 9)) 91 #[ptrV (G.loc f)]
      rwa [World.size_alloc, World.size_alloc] at this
    have HWF := Lib.hid WFC
    dsimp only
    clear h hF ha hb hn hnm h0 hg hd hf hlt WFC
    go_enter Try.func37, Try.ntmps37
    go_wp2_with (fail)
    refine HFI.out.mono ?_
    rintro e w2 ⟨rfl, rfl⟩
    go_wp2_with (fail)
    refine (HT.out _ (grows_alloc _ _) HWF.out).mono ?_
    rintro e w4 ⟨rfl, h4⟩
    have H4 := Lib.hid h4
    clear h4 HT
    go_wp2_with (fail)
    go_ret
    exact Did.behind (HDK.out.2.trans (grows_alloc _ _)) ⟨rfl, H4.out⟩

set_option maxHeartbeats 8000000 in
set_option maxRecDepth 100000 in
theorem append_any (w : World) (n : Nm) {A : Option Addr} {nb cb : Nat} {bs : List UInt8} (h : DkAt w d own G m) (hF : DkFit m) (hn : n.length ≤ maxLen) (hs : Sl w A nb cb bs) (hoff : ∀ ad, A = some ad → bs ≠ [] → ad.block ≠ d ∧ ¬ own ad.block) (hnb : nb ≤ 1000000000) :
    Calls Try.prog 27 #[.pointer (some ⟨d, 0, none⟩), .string ⟨n.toArray⟩, .slice A nb cb] w fun e w' => Did w d own (m.append n bs) e w' := by
  have hg : Grows w ((w.alloc (.cells #[.pointer (some ⟨d, 0, none⟩)] 40)).alloc (.cells #[.slice A nb cb] 23)) := (grows_alloc _ _).trans (grows_alloc _ _)
  have ha : Whole ((w.alloc (.cells #[.pointer (some ⟨d, 0, none⟩)] 40)).alloc (.cells #[.slice A nb cb] 23)) w.heap.size 40 #[ptrV d] := (Whole.made _ _ _).alloc _
  have hb : Whole ((w.alloc (.cells #[.pointer (some ⟨d, 0, none⟩)] 40)).alloc (.cells #[.slice A nb cb] 23)) (w.heap.size + 1) 23 #[.slice A nb cb] := by
    have := Whole.made (w.alloc (.cells #[.pointer (some ⟨d, 0, none⟩)] 40)) 23 #[.slice A nb cb]
    rwa [World.size_alloc] at this
  have h0 := h.grow hg
  have HDK := Lib.hid (And.intro h hg)
  have hlen := hs.len
  unfold Dk.append
  cases hd : m.down with
  | true =>
    have HFI := Lib.hid (find_down _ h0 hn hd)
    rw [if_pos rfl]
    clear h hF ha hb hn h0 hg hd hs hoff hnb hlen
    go_enter Try.func27, Try.ntmps27
    go_wp2_with (fail)
    refine HFI.out.mono ?_
    rintro e w2 ⟨rfl, rfl⟩
    go_wp2_with (fail)
    go_ret
    exact Did.none HDK.out.1 (HDK.out.2.trans (grows_alloc _ _)) 82
  | false =>
  rw [if_neg (by decide)]
  cases hf : Dir.find n m.names with
  | none =>
    have HFI := Lib.hid (find_none _ h0 hn hd hf)
    dsimp only
    clear h hF ha hb hn h0 hg hd hf hs hoff hnb hlen
    go_enter Try.func27, Try.ntmps27
    go_wp2_with (fail)
    refine HFI.out.mono ?_
    rintro e w2 ⟨rfl, rfl⟩
    go_wp2_with (fail)
    go_ret
    exact Did.none HDK.out.1 (HDK.out.2.trans (grows_alloc _ _)) 3
  | some f =>
    have HFI := Lib.hid (find_some _ h0 hn hd hf)
    have hlt := h.find_lt hn hf
    have WFC : Whole (((w.alloc (.cells #[.pointer (some ⟨d, 0, none⟩)] 40)).alloc (.cells #[.slice A nb cb] 23)).alloc (.cells #[.pointer (some ⟨G.loc f, 0, none⟩)] 91)) (w.heap.size + 1 + 1) 91 #[ptrV (G.loc f)] := by
      have := Whole.made ((w.alloc (.cells #[.pointer (some ⟨d, 0, none⟩)] 40)).alloc (.cells #[.slice A nb cb] 23)) 91 #[ptrV (G.loc f)]
      rwa [World.size_alloc, World.size_alloc] at this
    have g1 : Grows ((w.alloc (.cells #[.pointer (some ⟨d, 0, none⟩)] 40)).alloc (.cells #[.slice A nb cb] 23)) (((w.alloc (.cells #[.pointer (some ⟨d, 0, none⟩)] 40)).alloc (.cells #[.slice A nb cb] 23)).alloc (.cells #[.pointer (some ⟨G.loc f, 0, none⟩)] 91)) := grows_alloc _ _
    have HT := Lib.hid (fun w3 (g3 : Grows (((w.alloc (.cells #[.pointer (some ⟨d, 0, none⟩)] 40)).alloc (.cells #[.slice A nb cb] 23)).alloc (.cells #[.pointer (some ⟨G.loc f, 0, none⟩)] 91)) w3) => thing_any w3 (h0.grow (g1.trans g3)) hF.cut hF.fail 54 #[] #[.pointer (some ⟨w.heap.size + 1 + 1, 0, none⟩), .pointer (some ⟨w.heap.size + 1, 0, none⟩), .pointer (some ⟨w.heap.size, 0, none⟩)] (fun args w => by kernel_rfl) (Dk.doAppend f bs)
      fun _ hc hx w1 h1 s1 => by
        have hl := h.top.lt
        refine append_do w1 h1 hlt ((g3.whole WFC).same (s1.same _ (g3.whole WFC).lt (by omega))) (((g1.trans g3).whole hb).same (s1.same _ ((g1.trans g3).whole hb).lt (by omega))) (((g1.trans g3).whole ha).same (s1.same _ ((g1.trans g3).whole ha).lt (by omega))) ?_ ((hs.grow (hg.trans (g1.trans g3))).off s1.size fun ad e hne hl' => s1.same _ hl' (hoff ad e hne).1) hoff (hF.bytes f hlt).1 hnb
        rintro k (rfl | rfl | rfl)
        · exact ⟨by omega, fun e => by have := h.rest.lt _ e; omega⟩
        · exact ⟨by omega, fun e => by have := h.rest.lt _ e; omega⟩
        · exact ⟨by omega, fun e => by have := h.rest.lt _ e; omega⟩)
    have HCL := Lib.hid (show ∀ w', Grows (((w.alloc (.cells #[.pointer (some ⟨d, 0, none⟩)] 40)).alloc (.cells #[.slice A nb cb] 23)).alloc (.cells #[.pointer (some ⟨G.loc f, 0, none⟩)] 91)) w' → w'.cell? ⟨w.heap.size, 0, none⟩ = some (.pointer (some ⟨d, 0, none⟩)) ∧ w'.cell? ⟨w.heap.size + 1, 0, none⟩ = some (.slice A nb cb) ∧ w'.cell? ⟨d, 2, none⟩ = some (.int .i64 m.used) ∧ w'.cell? ⟨d, 0, none⟩ = some (.int .i64 m.most)
      from fun w' hg' => ⟨(g1.trans hg').cellq ha, (g1.trans hg').cellq hb, (g1.trans hg').cellq h0.top, (g1.trans hg').cellq h0.top⟩)
    dsimp only
    rw [hlen]
    clear h hF ha hb hn h0 hg hd hf hs hoff hnb hlen hlt WFC g1
    generalize hus : m.used = us at HCL ⊢
    generalize hmo : m.most = mo at HCL ⊢
    clear hus hmo
    have hwi : wrap64 (us + nb) = IntKind.i64.wrap (us + nb) := by unfold wrap64; rw [IntKind.wrap_i64]
    rw [hwi]
    clear hwi
    by_cases hq : mo < IntKind.i64.wrap (us + nb)
    · rw [if_pos hq]
      have d1 : decide (mo < IntKind.i64.wrap (us + nb)) = true := decide_eq_true hq
      clear hq
      go_enter Try.func27, Try.ntmps27
      go_wp2_with (fail)
      refine HFI.out.mono ?_
      rintro e w2 ⟨rfl, rfl⟩
      go_wp2_with (fail)
      refine q_region mixed (by kernel_rfl) ?_
      iterate 12 (refine q_op' (v := ?_) (a' := ?_) (by rfl) ?_ ?_ ?_
                  rotate_left 2
                  · intro w' hC
                    obtain ⟨z0, z1, z2, z3⟩ := HCL.out w' hC
                    clear hC
                    go_simp
                    try with_reducible rfl
                  · simp only [Act.put, List.setIfInBounds_toArray, List.set_cons_zero, List.set_cons_succ]
                    try rfl)
      refine wpQuiet_nil ?_
      intro w3 hC
      have HCw3 := Lib.hid hC
      clear hC
      clear HCL
      go_wp2_with (fail)
      go_ret
      exact Did.none HDK.out.1 (HDK.out.2.trans ((grows_alloc _ _).trans HCw3.out)) 5
    · rw [if_neg hq]
      have d1 : decide (mo < IntKind.i64.wrap (us + nb)) = false := decide_eq_false hq
      clear hq
      go_enter Try.func27, Try.ntmps27
      go_wp2_with (fail)
      refine HFI.out.mono ?_
      rintro e w2 ⟨rfl, rfl⟩
      go_wp2_with (fail)
      refine q_region mixed (by kernel_rfl) ?_
      iterate 12 (refine q_op' (v := ?_) (a' := ?_) (by rfl) ?_ ?_ ?_
                  rotate_left 2
                  · intro w' hC
                    obtain ⟨z0, z1, z2, z3⟩ := HCL.out w' hC
                    clear hC
                    go_simp
                    try with_reducible rfl
                  · simp only [Act.put, List.setIfInBounds_toArray, List.set_cons_zero, List.set_cons_succ]
                    try rfl)
      refine wpQuiet_nil ?_
      intro w3 hC
      have HCw3 := Lib.hid hC
      clear hC
      obtain ⟨z0, _, _, _⟩ := HCL.out w3 HCw3.out
      clear HCL
      go_wp2_with (fail)
      refine (HT.out w3 HCw3.out).mono ?_
      rintro e w4 ⟨rfl, h4⟩
      have H4 := Lib.hid h4
      clear h4 HT
      go_wp2_with (fail)
      go_ret
      exact Did.behind (HDK.out.2.trans ((grows_alloc _ _).trans HCw3.out)) ⟨rfl, H4.out⟩
end
end Go.Proofs.Ytmfhpfehphbklaa

