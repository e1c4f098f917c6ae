/-
  Texts that the statements' proofs lean on, one behind the other.
-/
import Derived.Test.YtdkpbphgaenlnaaMQ
import Derived.Test.YtdkpbphgaenlnaaMC
import Derived.Test.YtdkpbphgaenlnaaMJ
import Derived.Laws.Rows
import Derived.Test.YtdkpbphgaenlnaaWalkBits
import Derived.Test.YtdkpbphgaenlnaaPut
import Derived.Test.YtdkpbphgaenlnaaMY
/-
  A segment: its disk, its number and its name; how long it is; its first body.
-/
namespace Go.Proofs.Ytdkpbphgaenlnaa
open Go.RowKit
set_option linter.unusedVariables false
set_option linter.unusedSimpArgs false

/-- A segment's name. -/
def nmS (n : Int) : Nm := ofP 1 n
def segV (d : Nat) (n : Int) : Array Value := #[.pointer (some ⟨d, 0, none⟩), .int .i64 n, .string ⟨(nmS n).toArray⟩]
/-- Its first body. -/
def firstS (n : Int) : List UInt8 := 9 :: numB n 4
theorem firstS_length (n : Int) : (firstS n).length = 5 := by unfold firstS; rw [List.length_cons, numB_length]

set_option maxRecDepth 100000 in
set_option maxHeartbeats 4000000 in
theorem segOf_any (w : World) (d : Nat) (n : Int) :
    Calls Try.prog 65 #[.pointer (some ⟨d, 0, none⟩), .int .i64 n] w fun e w' => e = .returned (.agg (segV d n)) ∧ Grows w w' := by
  unfold segV nmS
  have HO := Lib.hid (fun w' => nameOf_any 1 n w')
  obtain ⟨s, hs⟩ : ∃ s : ByteArray, (⟨(ofP 1 n).toArray⟩ : ByteArray) = s := ⟨_, rfl⟩
  rw [hs] at HO ⊢
  clear hs
  go_enter Try.func65, Try.ntmps65
  go_wp2_with (fail)
  refine (HO.out _).mono ?_
  rintro e w1 ⟨rfl, hg⟩
  have hm := Grows.whole hg (Whole.made w 107 #[.pointer none, .int .i64 0, .string ⟨#[]⟩])
  have HG := Lib.hid (Grows.trans (grows_alloc w _) hg)
  have c0 := hm.cell 0
  have f0 := hm.free 0
  have c1 := hm.cell 1
  have f1 := hm.free 1
  have c2 := hm.cell 2
  have f2 := hm.free 2
  simp only [List.getElem?_toArray, List.getElem?_cons_zero, List.getElem?_cons_succ] at c0 c1 c2
  have HM := Lib.hid hm
  clear hm hg
  go_wp2_with (fail)
  have hp := ((HM.out.put 0 (.pointer (some ⟨d, 0, none⟩))).put 1 (.int .i64 n)).put 2 (.string s)
  simp only [List.setIfInBounds_toArray, List.set_cons_zero, List.set_cons_succ] at hp
  refine bodyPost_ret (results_cell_row rfl _ _ w.heap.size _ _ (0, 0) _ rfl hp Try.underlying107 rfl (by kernel_rfl)) rfl ?_
  refine ⟨rfl, ?_⟩
  exact ((HG.out.setCell (Nat.le_refl _) _).setCell (Nat.le_refl _) _).setCell (Nat.le_refl _) _
theorem nmS_small (n : Int) : (nmS n).length ≤ 16 := by
  unfold nmS ofP
  repeat' split
  all_goals simp [digs_length]
theorem segFirst_cells {n : Int} (hn : 0 ≤ n ∧ n ≤ 99999999) : (#[.int .u8 9, .int .u8 (n / 16777216), .int .u8 (n / 65536 % 256), .int .u8 (n / 256 % 256), .int .u8 (n % 256)] : Array Value) = ((firstS n).map byteV).toArray := by
  have h3 := byteI_nat (n / 256 ^ 3)
  have h2 := byteI_nat (n / 256 ^ 2)
  have h1 := byteI_nat (n / 256 ^ 1)
  have h0 := byteI_nat (n / 256 ^ 0)
  unfold firstS numB numB numB numB numB
  simp only [List.map_cons, List.map_nil, byteV]
  rw [h3, h2, h1, h0]
  have e3 : n / 256 ^ 3 % 256 = n / 16777216 := by
    rw [show (256 : Int) ^ 3 = 16777216 by decide]; omega
  have e2 : n / 256 ^ 2 % 256 = n / 65536 % 256 := by rw [show (256 : Int) ^ 2 = 65536 by decide]
  have e1 : n / 256 ^ 1 % 256 = n / 256 % 256 := by rw [show (256 : Int) ^ 1 = 256 by decide]
  have e0 : n / 256 ^ 0 % 256 = n % 256 := by rw [show (256 : Int) ^ 0 = 1 by decide, Int.ediv_one]
  rw [e3, e2, e1, e0]
  rfl
section
variable {B d K : Nat} {w0 w : World} {out : Nat → Prop} {m : Dk}
set_option maxRecDepth 100000 in
set_option maxHeartbeats 4000000 in
theorem segSize_any (w : World) (n : Int) (h : DkIn B w0 w d out m) {v : Int} {b : Bool} (hv : m.size (nmS n) = (v, b)) :
    Calls Try.prog 70 #[.agg (segV d n)] w fun e w' => e = .returned (.int .i64 v) ∧ Grows w w' := by
  have hm := Whole.made w 107 (segV d n)
  have HS := Lib.hid (size_in (nmS n) (h.grow (grows_alloc w (.cells (segV d n) 107))) (by have := nmS_small n; omega) hv)
  unfold segV at hm HS ⊢
  obtain ⟨s, hs⟩ : ∃ s : ByteArray, (⟨(nmS n).toArray⟩ : ByteArray) = s := ⟨_, rfl⟩
  rw [hs] at HS hm ⊢
  have c0 := hm.cell 0
  have c2 := hm.cell 2
  simp only [List.getElem?_toArray, List.getElem?_cons_zero, List.getElem?_cons_succ] at c0 c2
  clear h hv hs hm
  go_enter Try.func70, Try.ntmps70
  go_wp2_with (fail)
  refine HS.out.mono ?_
  rintro e w1 ⟨rfl, rfl⟩
  go_wp2_with (fail)
  go_ret
  exact ⟨rfl, grows_alloc _ _⟩
set_option maxRecDepth 100000 in
set_option maxHeartbeats 4000000 in
theorem segSizeOf_any (w : World) (n : Int) (h : DkIn B w0 w d out m) {v : Int} {b : Bool} (hv : m.size (nmS n) = (v, b)) :
    Calls Try.prog 64 #[.pointer (some ⟨d, 0, none⟩), .int .i64 n] w fun e w' => e = .returned (.int .i64 v) ∧ Grows w w' := by
  have HO := Lib.hid (segOf_any w d n)
  have HS := Lib.hid (fun w' (hg : Grows w w') => segSize_any w' n (h.grow hg) hv)
  obtain ⟨sv, hs⟩ : ∃ sv : Array Value, segV d n = sv := ⟨_, rfl⟩
  rw [hs] at HO HS
  clear h hv hs
  go_enter Try.func64, Try.ntmps64
  go_wp2_with (fail)
  refine HO.out.mono ?_
  rintro e w1 ⟨rfl, hg⟩
  have HG := Lib.hid hg
  clear hg
  go_wp2_with (fail)
  refine (HS.out w1 HG.out).mono ?_
  rintro e w2 ⟨rfl, hg2⟩
  have HG2 := Lib.hid (Grows.trans HG.out hg2)
  clear hg2
  go_wp2_with (fail)
  go_ret
  exact ⟨rfl, HG2.out⟩
set_option maxRecDepth 100000 in
set_option maxHeartbeats 4000000 in
theorem segFirst_any (w : World) (d : Nat) (n : Int) (hn : 0 ≤ n ∧ n ≤ 99999999) :
    Calls Try.prog 66 #[.agg (segV d n)] w fun e w' => ∃ g, e = .returned (.slice (some ⟨g, 0, none⟩) 5 5) ∧ w.heap.size ≤ g ∧ Sl w' (some ⟨g, 0, none⟩) 5 5 (firstS n) ∧ Grows w w' := by
  have hm := Whole.made w 107 (segV d n)
  unfold segV at hm ⊢
  obtain ⟨s, hs⟩ : ∃ s : ByteArray, (⟨(nmS n).toArray⟩ : ByteArray) = s := ⟨_, rfl⟩
  rw [hs] at hm ⊢
  have c1 := hm.cell 1
  simp only [List.getElem?_toArray, List.getElem?_cons_zero, List.getElem?_cons_succ] at c1
  clear hs hm
  go_enter Try.func66, Try.ntmps66
  go_wp2_with (fail)
  go_ret
  have hw := Whole.made (w.alloc (.cells #[.pointer (some ⟨d, 0, none⟩), .int .i64 n, .string s] 107)) 5 #[.int .u8 9, .int .u8 (n / 16777216), .int .u8 (n / 65536 % 256), .int .u8 (n / 256 % 256), .int .u8 (n % 256)]
  rw [World.size_alloc] at hw
  exact ⟨w.heap.size + 1, rfl, by omega, hw.sl (firstS n) (segFirst_cells hn) (firstS_length n), Grows.trans (grows_alloc _ _) (grows_alloc _ _)⟩
end
end Go.Proofs.Ytdkpbphgaenlnaa

/-
  Bits for walks of segments: a call of the disk with another's block beside it; a call that hands back new bytes, as a fact; bytes compared.
-/
namespace Go.Proofs.Ytdkpbphgaenlnaa
open Go.RowKit
set_option linter.unusedVariables false
set_option linter.unusedSimpArgs false
section
variable {B d K : Nat} {w0 w w' : World} {out : Nat → Prop} {m m' : Dk}
/-- A block that has just been laid, beside the disk. -/
theorem DkIn.beside (h : DkIn B w0 w d out m) (cs : Array Value) (t : TypeId) : DkIn B w0 (w.alloc (.cells cs t)) d (fun k => out k ∨ k = w.heap.size) m :=
  (h.more (grows_alloc w (.cells cs t))).less fun k hk => hk.imp id fun e => by rw [World.size_alloc]; omega
/-- What has been laid since, too. -/
theorem DkIn.news (h : DkIn B w0 w d out m) (hg : Grows w w') : DkIn B w0 w' d (fun k => out k ∨ w.heap.size ≤ k ∧ k < w'.heap.size) m := h.more hg
theorem Stays.whole {t : TypeId} {cs : Array Value} {g : Nat} (hs : Stays B out w w') (h : Whole w g t cs) (ho : out g) : Whole w' g t cs := h.same (hs.same g h.lt fun e => e.2 ho)
theorem Stays.less {out' : Nat → Prop} (hs : Stays B out' w w') (ho : ∀ k, out k → out' k) : Stays B out w w' := hs.wider fun k _ hk => ⟨hk.1, fun e => hk.2 (ho k e)⟩
end
/-- New bytes. -/
def ownFact (W : World) (bs : List UInt8) : Fact Grows := ⟨Option Addr × Nat, (none, 0), fun p => .slice p.1 bs.length p.2, fun p w => w.ownsRow W.heap.size 5 1 (.slice p.1 bs.length p.2) bs.length (bs.map byteV), fun _ _ _ h g => owned_grow h g⟩
section
variable {P : Program} {ops : Array Oper} {W : World} {Q : Act → World → Prop} {o : Oper} {rest : List Oper} {fs : List (Fact Grows)} {ks : Known} {a : Act}
theorem f_own (bs : List UInt8) (f : FuncId) (args : Array Value) (hw : Region.wanted o (yielded ops a.tmps) = true) (h1 : ∀ w, Grows W w → (execOp a.eval o).run P w = .ok (.enter f args) w)
    (hc : ∀ w, Grows W w → ks.for (o.looksAt ops) w → Calls P f args w fun e w' => ∃ A m c, e = .returned (.slice A m c) ∧ w'.ownsRow w.heap.size 5 1 (.slice A m c) m (bs.map byteV) ∧ Below w.heap.size w w')
    (h2 : ∀ A c, wpF P ops Grows W Q rest fs ((o.dst, fun w => w.ownsRow W.heap.size 5 1 (.slice A bs.length c) bs.length (bs.map byteV)) :: ks) (a.put o.dst (.slice A bs.length c))) :
    wpF P ops Grows W Q (o :: rest) (ownFact W bs :: fs) ks a := by
  unfold wpF fStep
  rw [if_pos hw]
  refine ⟨fun w hW hk => ?_, fun x => h2 x.1 x.2⟩
  unfold gives
  rw [h1 w hW]
  refine (hc w hW hk).mono fun e w' ⟨A, m, c, he, hs, hb⟩ => ?_
  obtain rfl : bs.length = m := by have := hs.1; simpa using this
  exact ⟨hb, (A, c), he, owned_from hs hW.size⟩
end
/-- What Read hands back. -/
def gotFact (bs : List UInt8) (er : Int) : Fact Grows := ⟨Option Addr × Nat, (none, 0), fun p => .tuple #[.slice p.1 bs.length p.2, .int .i64 er], fun p w => Sl w p.1 bs.length p.2 bs, fun _ _ _ h g => Sl.grow g h⟩
section
variable {P : Program} {ops : Array Oper} {W : World} {Q : Act → World → Prop} {o : Oper} {rest : List Oper} {fs : List (Fact Grows)} {ks : Known} {a : Act}
theorem f_got (bs : List UInt8) (er : Int) (f : FuncId) (args : Array Value) (hw : Region.wanted o (yielded ops a.tmps) = true) (h1 : ∀ w, Grows W w → (execOp a.eval o).run P w = .ok (.enter f args) w)
    (hc : ∀ w, Grows W w → ks.for (o.looksAt ops) w → Calls P f args w fun e w' => ∃ A c, e = .returned (.tuple #[.slice A bs.length c, .int .i64 er]) ∧ Sl w' A bs.length c bs ∧ Grows w w')
    (h2 : ∀ A c, wpF P ops Grows W Q rest fs ((o.dst, fun w => Sl w A bs.length c bs) :: ks) (a.put o.dst (.tuple #[.slice A bs.length c, .int .i64 er]))) :
    wpF P ops Grows W Q (o :: rest) (gotFact bs er :: fs) ks a := by
  unfold wpF fStep
  rw [if_pos hw]
  refine ⟨fun w hW hk => ?_, fun x => h2 x.1 x.2⟩
  unfold gives
  rw [h1 w hW]
  exact (hc w hW hk).mono fun e w' ⟨A, c, he, hs, hb⟩ => ⟨hb, (A, c), he, hs⟩
/-- .. moved, and taken out of it. -/
theorem f_gotv (bs : List UInt8) (er : Int) (A : Option Addr) (c : Nat) (hw : Region.wanted o (yielded ops a.tmps) = true) (h1 : ∀ w, Grows W w → ks.for (o.looksAt ops) w → (execOp a.eval o).run P w = .ok (.value (.tuple #[.slice A bs.length c, .int .i64 er])) w ∧ Sl w A bs.length c bs)
    (h2 : ∀ A c, wpF P ops Grows W Q rest fs ((o.dst, fun w => Sl w A bs.length c bs) :: ks) (a.put o.dst (.tuple #[.slice A bs.length c, .int .i64 er]))) :
    wpF P ops Grows W Q (o :: rest) (gotFact bs er :: fs) ks a := by
  unfold wpF fStep
  rw [if_pos hw]
  refine ⟨fun w hW hk => ?_, fun x => h2 x.1 x.2⟩
  unfold gives
  rw [(h1 w hW hk).1]
  exact ⟨Grows.refl w, (A, c), rfl, (h1 w hW hk).2⟩
theorem f_slv (bs : List UInt8) (A : Option Addr) (c : Nat) (hw : Region.wanted o (yielded ops a.tmps) = true) (h1 : ∀ w, Grows W w → ks.for (o.looksAt ops) w → (execOp a.eval o).run P w = .ok (.value (.slice A bs.length c)) w ∧ Sl w A bs.length c bs)
    (h2 : ∀ A c, wpF P ops Grows W Q rest fs ((o.dst, fun w => Sl w A bs.length c bs) :: ks) (a.put o.dst (.slice A bs.length c))) :
    wpF P ops Grows W Q (o :: rest) (slFact bs :: fs) ks a := by
  unfold wpF fStep
  rw [if_pos hw]
  refine ⟨fun w hW hk => ?_, fun x => h2 x.1 x.2⟩
  unfold gives
  rw [(h1 w hW hk).1]
  exact ⟨Grows.refl w, (A, c), rfl, (h1 w hW hk).2⟩
end
/-- Where new bytes lie. -/
theorem own_off {w : World} {b : Nat} {A : Option Addr} {n c : Nat} {bs : List UInt8} (h : w.ownsRow b 5 1 (.slice A n c) n (bs.map byteV)) : ∀ ad, A = some ad → b ≤ ad.block ∧ ad.block < w.heap.size := fun ad e => by
  subst e
  exact h.lt ad.block rfl

set_option maxRecDepth 100000 in
theorem equal_any (w : World) {A : Option Addr} {n c : Nat} {bs : List UInt8} {A2 : Option Addr} {n2 c2 : Nat} {bs2 : List UInt8} (h1 : Sl w A n c bs) (h2 : Sl w A2 n2 c2 bs2) :
    Calls Try.prog 107 #[.slice A n c, .slice A2 n2 c2] w fun e w' => e = .returned (.bool (decide (bs = bs2))) ∧ w = w' := by
  have r1 := run_string h1
  have r2 := run_string h2
  clear h1 h2
  go_enter Try.func107, Try.ntmps107
  go_wp2_with (fail)
  go_ret
  exact ⟨by rw [show (bs == bs2) = decide (bs = bs2) from Bool.eq_iff_iff.2 (by simp)]; rfl, rfl⟩
end Go.Proofs.Ytdkpbphgaenlnaa

/-
  Segments: does a file begin with its first frame?
-/
namespace Go.Proofs.Ytdkpbphgaenlnaa
open Go.RowKit
set_option linter.unusedVariables false
set_option linter.unusedSimpArgs false
attribute [local irreducible] wpF
def beginsP (ts : List It) (n : Int) : Bool := match ts with
  | [] => false
  | t :: _ => decide (t.1 = 0) && decide (t.2.2 = firstS n)
set_option maxRecDepth 100000 in
set_option maxHeartbeats 4000000 in
theorem begins_any (w : World) (d : Nat) (n : Int) (hn : 0 ≤ n ∧ n ≤ 99999999) {A : Option Addr} {k c : Nat} {ts : List It} (hI : Items w A k c ts) :
    Calls Try.prog 74 #[.agg (segV d n), .slice A k c] w fun e w' => e = .returned (.bool (beginsP ts n)) ∧ Grows w w' := by
  have HFB := Lib.hid (fun w' => segFirst_any w' d n hn)
  have HFL := Lib.hid (firstS_length n)
  have hwm := Whole.made w 107 (segV d n)
  unfold segV at HFB hwm ⊢
  obtain ⟨s, hs⟩ : ∃ s : ByteArray, (⟨(nmS n).toArray⟩ : ByteArray) = s := ⟨_, rfl⟩
  rw [hs] at HFB hwm ⊢
  have HG := Lib.hid (grows_alloc w (.cells #[.pointer (some ⟨d, 0, none⟩), .int .i64 n, .string s] 107))
  have HC := Lib.hid (show ∀ w', Grows (w.alloc (.cells #[.pointer (some ⟨d, 0, none⟩), .int .i64 n, .string s] 107)) w' → w'.cell? { block := w.heap.size, off := 0 } = some (.pointer (some ⟨d, 0, none⟩)) ∧ w'.cell? { block := w.heap.size, off := 1 } = some (.int .i64 n) ∧ w'.cell? { block := w.heap.size, off := 2 } = some (.string s) from fun w' hC => by
    have hx := hC.whole hwm
    exact ⟨hx.cell 0, hx.cell 1, hx.cell 2⟩)
  clear hs hwm
  have hkl := hI.len
  match ts, hI, hkl with
  | [], hI, hkl =>
    obtain rfl : k = 0 := by simpa using hkl.symm
    show Calls _ _ _ _ fun e w' => e = .returned (.bool false) ∧ Grows w w'
    clear hI hkl
    go_enter Try.func74, Try.ntmps74
    go_wp2_with (fail)
    refine wp_region_facts (E := Grows) [valFact (.slice A 0 c), valFact (.int .i64 0), valFact (.bool false), valFact (.bool false), valFact undef, valFact undef, valFact undef, valFact undef, valFact undef, valFact (.bool false), valFact (.bool false), valFact undef, valFact undef, valFact undef, valFact undef, valFact undef, valFact undef, valFact undef, valFact (.bool false), valFact (.bool false)] (by kernel_rfl) (by kernel_rfl) (fun _ _ _ => Grows.trans) (grows_drew _) ?_
    refine f_val (.slice A 0 c) (by rfl) ?_ ?_
    · intro w' hC; clear hC; first | (go_simp; done)
    simp only [Act.put, List.setIfInBounds_toArray, List.set_cons_zero, List.set_cons_succ]
    refine f_val (.int .i64 0) (by rfl) ?_ ?_
    · intro w' hC; clear hC; first | (go_simp; done)
    simp only [Act.put, List.setIfInBounds_toArray, List.set_cons_zero, List.set_cons_succ]
    refine f_val (.bool false) (by rfl) ?_ ?_
    · intro w' hC; clear hC; first | (go_simp; done)
    simp only [Act.put, List.setIfInBounds_toArray, List.set_cons_zero, List.set_cons_succ]
    refine f_val (.bool false) (by rfl) ?_ ?_
    · intro w' hC; clear hC; first | (go_simp; done)
    simp only [Act.put, List.setIfInBounds_toArray, List.set_cons_zero, List.set_cons_succ]
    refine f_skip (by rfl) ?_
    simp only [Act.put, List.setIfInBounds_toArray, List.set_cons_zero, List.set_cons_succ]
    refine f_skip (by rfl) ?_
    simp only [Act.put, List.setIfInBounds_toArray, List.set_cons_zero, List.set_cons_succ]
    refine f_skip (by rfl) ?_
    simp only [Act.put, List.setIfInBounds_toArray, List.set_cons_zero, List.set_cons_succ]
    refine f_skip (by rfl) ?_
    simp only [Act.put, List.setIfInBounds_toArray, List.set_cons_zero, List.set_cons_succ]
    refine f_skip (by rfl) ?_
    simp only [Act.put, List.setIfInBounds_toArray, List.set_cons_zero, List.set_cons_succ]
    refine f_val (.bool false) (by rfl) ?_ ?_
    · intro w' hC; clear hC; first | (go_simp; done)
    simp only [Act.put, List.setIfInBounds_toArray, List.set_cons_zero, List.set_cons_succ]
    refine f_val (.bool false) (by rfl) ?_ ?_
    · intro w' hC; clear hC; first | (go_simp; done)
    simp only [Act.put, List.setIfInBounds_toArray, List.set_cons_zero, List.set_cons_succ]
    refine f_skip (by rfl) ?_
    simp only [Act.put, List.setIfInBounds_toArray, List.set_cons_zero, List.set_cons_succ]
    refine f_skip (by rfl) ?_
    simp only [Act.put, List.setIfInBounds_toArray, List.set_cons_zero, List.set_cons_succ]
    refine f_skip (by rfl) ?_
    simp only [Act.put, List.setIfInBounds_toArray, List.set_cons_zero, List.set_cons_succ]
    refine f_skip (by rfl) ?_
    simp only [Act.put, List.setIfInBounds_toArray, List.set_cons_zero, List.set_cons_succ]
    refine f_skip (by rfl) ?_
    simp only [Act.put, List.setIfInBounds_toArray, List.set_cons_zero, List.set_cons_succ]
    refine f_skip (by rfl) ?_
    simp only [Act.put, List.setIfInBounds_toArray, List.set_cons_zero, List.set_cons_succ]
    refine f_skip (by rfl) ?_
    simp only [Act.put, List.setIfInBounds_toArray, List.set_cons_zero, List.set_cons_succ]
    refine f_val (.bool false) (by rfl) ?_ ?_
    · intro w' hC; clear hC; first | (go_simp; done)
    simp only [Act.put, List.setIfInBounds_toArray, List.set_cons_zero, List.set_cons_succ]
    refine f_val (.bool false) (by rfl) ?_ ?_
    · intro w' hC; clear hC; first | (go_simp; done)
    simp only [Act.put, List.setIfInBounds_toArray, List.set_cons_zero, List.set_cons_succ]
    refine wpF_end ?_
    intro w5 hC hks
    have HCw5 := Lib.hid hC
    clear hC hks
    go_wp2_with (fail)
    go_ret
    exact ⟨rfl, Grows.trans HG.out HCw5.out⟩
  | t :: ts, hI, hkl =>
    obtain ⟨ad, B, m, dd, hA, c1, c2, c3, hsl⟩ := hI.spot (i := 0) (by rw [List.length_cons] at hkl; omega)
    subst hA
    simp only [Nat.zero_mul, Addr.add_zero', List.getD_cons_zero] at c1 c2 c3 hsl
    have hkn : 0 < k := by rw [List.length_cons] at hkl; omega
    have hk0 : (0 : Int) < (k : Int) := by omega
    have HI := Lib.hid (show ∀ w', Grows (w.alloc (.cells #[.pointer (some ⟨d, 0, none⟩), .int .i64 n, .string s] 107)) w' → w'.cell? ad = some (.int .i64 (t.1 : Nat)) ∧ w'.cell? { block := ad.block, off := ad.off + 2 } = some (.slice B m dd) from fun w' hg => ⟨c1 w' (Grows.trans HG.out hg), c3 w' (Grows.trans HG.out hg)⟩)
    have HSL := Lib.hid hsl
    clear c1 c2 c3 hsl hI hkl
    show Calls _ _ _ _ fun e w' => e = .returned (.bool (decide (t.1 = 0) && decide (t.2.2 = firstS n))) ∧ Grows w w'
    obtain ⟨⟨t1, t2, tb⟩, ht⟩ : ∃ q, t = q := ⟨_, rfl⟩
    subst ht
    dsimp only at HI HSL ⊢
    by_cases ht1 : t1 = 0
    rotate_left 1
    · have hz : ((t1 : Int) == 0) = false := by rw [beq_eq_false_iff_ne]; omega
      have hz' : ¬ ((t1 : Int) = 0) := by omega
      rw [decide_eq_false ht1, Bool.false_and]
      clear ht1
      go_enter Try.func74, Try.ntmps74
      go_wp2_with (fail)
      refine wp_region_facts (E := Grows) [valFact (.slice (some ad) k c), valFact (.int .i64 (k : Nat)), valFact (.bool true), valFact (.bool true), valFact (.slice (some ad) k c), valFact (.pointer (some ad)), valFact (.pointer (some ad)), valFact (.int .i64 (t1 : Nat)), valFact (.bool false), valFact (.bool false), valFact (.bool false), valFact undef, valFact undef, valFact undef, valFact undef, valFact undef, valFact undef, valFact undef, valFact (.bool false), valFact (.bool false)] (by kernel_rfl) (by kernel_rfl) (fun _ _ _ => Grows.trans) (grows_drew _) ?_
      refine f_val (.slice (some ad) k c) (by rfl) ?_ ?_
      · intro w' hC; clear hC; first | (go_simp; done)
      simp only [Act.put, List.setIfInBounds_toArray, List.set_cons_zero, List.set_cons_succ]
      refine f_val (.int .i64 (k : Nat)) (by rfl) ?_ ?_
      · intro w' hC; clear hC; first | (go_simp; done)
      simp only [Act.put, List.setIfInBounds_toArray, List.set_cons_zero, List.set_cons_succ]
      refine f_val (.bool true) (by rfl) ?_ ?_
      · intro w' hC; clear hC; first | (go_simp; done)
      simp only [Act.put, List.setIfInBounds_toArray, List.set_cons_zero, List.set_cons_succ]
      refine f_val (.bool true) (by rfl) ?_ ?_
      · intro w' hC; clear hC; first | (go_simp; done)
      simp only [Act.put, List.setIfInBounds_toArray, List.set_cons_zero, List.set_cons_succ]
      refine f_val (.slice (some ad) k c) (by rfl) ?_ ?_
      · intro w' hC; clear hC; first | (go_simp; done)
      simp only [Act.put, List.setIfInBounds_toArray, List.set_cons_zero, List.set_cons_succ]
      refine f_val (.pointer (some ad)) (by rfl) ?_ ?_
      · intro w' hC; clear hC; first | (go_simp; done)
      simp only [Act.put, List.setIfInBounds_toArray, List.set_cons_zero, List.set_cons_succ]
      refine f_val (.pointer (some ad)) (by rfl) ?_ ?_
      · intro w' hC; clear hC; first | (go_simp; done)
      simp only [Act.put, List.setIfInBounds_toArray, List.set_cons_zero, List.set_cons_succ]
      refine f_val (.int .i64 (t1 : Nat)) (by rfl) ?_ ?_
      · intro w' hC; obtain ⟨z1, z2⟩ := HI.out w' hC; clear hC; first | (go_simp; done)
      simp only [Act.put, List.setIfInBounds_toArray, List.set_cons_zero, List.set_cons_succ]
      refine f_val (.bool false) (by rfl) ?_ ?_
      · intro w' hC; clear hC; first | (go_simp; done)
      simp only [Act.put, List.setIfInBounds_toArray, List.set_cons_zero, List.set_cons_succ]
      refine f_val (.bool false) (by rfl) ?_ ?_
      · intro w' hC; clear hC; first | (go_simp; done)
      simp only [Act.put, List.setIfInBounds_toArray, List.set_cons_zero, List.set_cons_succ]
      refine f_val (.bool false) (by rfl) ?_ ?_
      · intro w' hC; clear hC; first | (go_simp; done)
      simp only [Act.put, List.setIfInBounds_toArray, List.set_cons_zero, List.set_cons_succ]
      refine f_skip (by rfl) ?_
      simp only [Act.put, List.setIfInBounds_toArray, List.set_cons_zero, List.set_cons_succ]
      refine f_skip (by rfl) ?_
      simp only [Act.put, List.setIfInBounds_toArray, List.set_cons_zero, List.set_cons_succ]
      refine f_skip (by rfl) ?_
      simp only [Act.put, List.setIfInBounds_toArray, List.set_cons_zero, List.set_cons_succ]
      refine f_skip (by rfl) ?_
      simp only [Act.put, List.setIfInBounds_toArray, List.set_cons_zero, List.set_cons_succ]
      refine f_skip (by rfl) ?_
      simp only [Act.put, List.setIfInBounds_toArray, List.set_cons_zero, List.set_cons_succ]
      refine f_skip (by rfl) ?_
      simp only [Act.put, List.setIfInBounds_toArray, List.set_cons_zero, List.set_cons_succ]
      refine f_skip (by rfl) ?_
      simp only [Act.put, List.setIfInBounds_toArray, List.set_cons_zero, List.set_cons_succ]
      refine f_val (.bool false) (by rfl) ?_ ?_
      · intro w' hC; clear hC; first | (go_simp; done)
      simp only [Act.put, List.setIfInBounds_toArray, List.set_cons_zero, List.set_cons_succ]
      refine f_val (.bool false) (by rfl) ?_ ?_
      · intro w' hC; clear hC; first | (go_simp; done)
      simp only [Act.put, List.setIfInBounds_toArray, List.set_cons_zero, List.set_cons_succ]
      refine wpF_end ?_
      intro w5 hC hks
      have HCw5 := Lib.hid hC
      clear hC hks
      go_wp2_with (fail)
      go_ret
      exact ⟨rfl, Grows.trans HG.out HCw5.out⟩
    · subst ht1
      rw [decide_eq_true (Eq.refl 0), Bool.true_and]
      have HEQ := Lib.hid (fun w' (hg : Grows (w.alloc (.cells #[.pointer (some ⟨d, 0, none⟩), .int .i64 n, .string s] 107)) w') => (HSL.out.grow (Grows.trans HG.out hg)))
      obtain ⟨q, hq⟩ : ∃ q, decide (tb = firstS n) = q := ⟨_, rfl⟩
      rw [hq]
      have HQ := Lib.hid hq
      clear hq
      go_enter Try.func74, Try.ntmps74
      go_wp2_with (fail)
      refine wp_region_facts (E := Grows) [valFact (.slice (some ad) k c), valFact (.int .i64 (k : Nat)), valFact (.bool true), valFact (.bool true), valFact (.slice (some ad) k c), valFact (.pointer (some ad)), valFact (.pointer (some ad)), valFact (.int .i64 0), valFact (.bool true), valFact (.bool true), valFact (.bool true), valFact (.slice (some ad) k c), valFact (.pointer (some ad)), valFact (.pointer (some ⟨ad.block, ad.off + 2, none⟩)), valFact (.slice B m dd), valFact (.agg #[.pointer (some ⟨d, 0, none⟩), .int .i64 n, .string s]), slFact (firstS n), valFact (.bool q), valFact (.bool q), valFact (.bool q)] (by kernel_rfl) (by kernel_rfl) (fun _ _ _ => Grows.trans) (grows_drew _) ?_
      refine f_val (.slice (some ad) k c) (by rfl) ?_ ?_
      · intro w' hC; clear hC; first | (go_simp; done)
      simp only [Act.put, List.setIfInBounds_toArray, List.set_cons_zero, List.set_cons_succ]
      refine f_val (.int .i64 (k : Nat)) (by rfl) ?_ ?_
      · intro w' hC; clear hC; first | (go_simp; done)
      simp only [Act.put, List.setIfInBounds_toArray, List.set_cons_zero, List.set_cons_succ]
      refine f_val (.bool true) (by rfl) ?_ ?_
      · intro w' hC; clear hC; first | (go_simp; done)
      simp only [Act.put, List.setIfInBounds_toArray, List.set_cons_zero, List.set_cons_succ]
      refine f_val (.bool true) (by rfl) ?_ ?_
      · intro w' hC; clear hC; first | (go_simp; done)
      simp only [Act.put, List.setIfInBounds_toArray, List.set_cons_zero, List.set_cons_succ]
      refine f_val (.slice (some ad) k c) (by rfl) ?_ ?_
      · intro w' hC; clear hC; first | (go_simp; done)
      simp only [Act.put, List.setIfInBounds_toArray, List.set_cons_zero, List.set_cons_succ]
      refine f_val (.pointer (some ad)) (by rfl) ?_ ?_
      · intro w' hC; clear hC; first | (go_simp; done)
      simp only [Act.put, List.setIfInBounds_toArray, List.set_cons_zero, List.set_cons_succ]
      refine f_val (.pointer (some ad)) (by rfl) ?_ ?_
      · intro w' hC; clear hC; first | (go_simp; done)
      simp only [Act.put, List.setIfInBounds_toArray, List.set_cons_zero, List.set_cons_succ]
      refine f_val (.int .i64 0) (by rfl) ?_ ?_
      · intro w' hC; obtain ⟨z1, z2⟩ := HI.out w' hC; clear hC; first | (go_simp; done)
      simp only [Act.put, List.setIfInBounds_toArray, List.set_cons_zero, List.set_cons_succ]
      refine f_val (.bool true) (by rfl) ?_ ?_
      · intro w' hC; clear hC; first | (go_simp; done)
      simp only [Act.put, List.setIfInBounds_toArray, List.set_cons_zero, List.set_cons_succ]
      refine f_val (.bool true) (by rfl) ?_ ?_
      · intro w' hC; clear hC; first | (go_simp; done)
      simp only [Act.put, List.setIfInBounds_toArray, List.set_cons_zero, List.set_cons_succ]
      refine f_val (.bool true) (by rfl) ?_ ?_
      · intro w' hC; clear hC; first | (go_simp; done)
      simp only [Act.put, List.setIfInBounds_toArray, List.set_cons_zero, List.set_cons_succ]
      refine f_val (.slice (some ad) k c) (by rfl) ?_ ?_
      · intro w' hC; clear hC; first | (go_simp; done)
      simp only [Act.put, List.setIfInBounds_toArray, List.set_cons_zero, List.set_cons_succ]
      refine f_val (.pointer (some ad)) (by rfl) ?_ ?_
      · intro w' hC; clear hC; first | (go_simp; done)
      simp only [Act.put, List.setIfInBounds_toArray, List.set_cons_zero, List.set_cons_succ]
      refine f_val (.pointer (some ⟨ad.block, ad.off + 2, none⟩)) (by rfl) ?_ ?_
      · intro w' hC; clear hC; first | (go_simp; done)
      simp only [Act.put, List.setIfInBounds_toArray, List.set_cons_zero, List.set_cons_succ]
      refine f_val (.slice B m dd) (by rfl) ?_ ?_
      · intro w' hC; obtain ⟨z1, z2⟩ := HI.out w' hC; clear hC; first | (go_simp; done)
      simp only [Act.put, List.setIfInBounds_toArray, List.set_cons_zero, List.set_cons_succ]
      refine f_val (.agg #[.pointer (some ⟨d, 0, none⟩), .int .i64 n, .string s]) (by rfl) ?_ ?_
      · intro w' hC; obtain ⟨y1, y2, y3⟩ := HC.out w' hC; clear hC; first | (go_simp; done)
      simp only [Act.put, List.setIfInBounds_toArray, List.set_cons_zero, List.set_cons_succ]
      refine f_new (firstS n) 66 #[.agg #[.pointer (some ⟨d, 0, none⟩), .int .i64 n, .string s]] (by rfl) (by intro w' hC; clear hC; go_simp) ?_ ?_
      · intro w' hC hks; exact (HFB.out w').mono fun e w'' ⟨g2, he, hlt, hsl, hgr⟩ => ⟨some ⟨g2, 0, none⟩, 5, 5, he, hsl, hgr⟩
      intro FA fc
      simp only [Act.put, List.setIfInBounds_toArray, List.set_cons_zero, List.set_cons_succ]
      refine f_call 107 #[.slice B m dd, .slice FA (firstS n).length fc] (.bool q) (by rfl) (by intro w' hC; clear hC; go_simp) ?_ ?_
      · intro w' hC hks; have he := equal_any w' (HEQ.out w' hC) (Known.get hks 0 rfl rfl); rw [HQ.out] at he; exact he.mono fun e w'' hh => ⟨hh.1, hh.2 ▸ Grows.refl _⟩
      simp only [Act.put, List.setIfInBounds_toArray, List.set_cons_zero, List.set_cons_succ]
      refine f_val (.bool q) (by rfl) ?_ ?_
      · intro w' hC; clear hC; first | (go_simp; done)
      simp only [Act.put, List.setIfInBounds_toArray, List.set_cons_zero, List.set_cons_succ]
      refine f_val (.bool q) (by rfl) ?_ ?_
      · intro w' hC; clear hC; first | (go_simp; done)
      simp only [Act.put, List.setIfInBounds_toArray, List.set_cons_zero, List.set_cons_succ]
      refine wpF_end ?_
      intro w5 hC hks
      have HCw5 := Lib.hid hC
      clear hC hks
      go_wp2_with (fail)
      go_ret
      exact ⟨rfl, Grows.trans HG.out HCw5.out⟩
end Go.Proofs.Ytdkpbphgaenlnaa
