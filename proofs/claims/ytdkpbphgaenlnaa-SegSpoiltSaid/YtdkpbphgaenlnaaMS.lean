/-
  Texts that the statements' proofs lean on, one behind the other.
-/
import Derived.Test.YtdkpbphgaenlnaaMG
import Derived.Test.YtdkpbphgaenlnaaML
import Derived.Test.YtdkpbphgaenlnaaMX
import Derived.Test.YtdkpbphgaenlnaaRcIn
import Derived.Test.YtdkpbphgaenlnaaMH
import Derived.Test.YtdkpbphgaenlnaaMF
import Derived.Test.YtdkpbphgaenlnaaWalkBits
import Derived.LoopTactic
import Derived.Test.YtdkpbphgaenlnaaMJ
/-
  A record got at its place; a segment of any number made on a new disk.
-/
namespace Go.Proofs.Ytdkpbphgaenlnaa
open Go.RowKit
set_option linter.unusedVariables false
set_option linter.unusedSimpArgs false

theorem frame_take {b : List UInt8} (more : List UInt8) : (frameB b ++ more).take 4 = headB b.length := by
  unfold frameB
  simp only [List.append_assoc]
  exact List.take_left' (by simp [headB])
theorem frame_take2 {b : List UInt8} : (frameB b).take 4 = headB b.length := by
  have := frame_take (b := b) []
  rwa [List.append_nil] at this
theorem getP_at {m : Dk} {n : Int} {x : Nat} {r : Rc} {more : List UInt8} {bs : List UInt8} (hr : RightR r) (hread : ∀ a k, a + k ≤ bs.length → m.read (nmS n) (a : Nat) (k : Nat) = (some ((bs.drop a).take k), 0)) (hx : bs.drop x = frS r ++ more) (hxl : x ≤ bs.length) : getP m n x = (r, 0) := by
  have hb := put_body hr
  have hlen : bs.length = x + ((frS r).length + more.length) := by
    have := congrArg List.length hx
    rw [List.length_drop, List.length_append] at this
    omega
  have hf : (frS r).length = (putR r).length + 8 := by rw [frS_right hr, frameB_length]
  have r4 := hread x 4 (by omega)
  have rf := hread x ((putR r).length + 8) (by omega)
  rw [hx, frS_right hr] at r4 rf
  rw [frame_take] at r4
  rw [List.take_left' (frameB_length _)] at rf
  have h21 : (firstB (headB (putR r).length)).2.2 = 21 := by
    have := first_short_cut (putR r) hb.1 hb.2 4 (by omega)
    rw [frame_take2] at this
    rw [this]
  have ht : toldN (headB (putR r).length) = (putR r).length := by
    have := told_head (putR r).length hb.2 []
    rwa [List.append_nil] at this
  have hs : sizeN ((putR r).length : Int) = (((putR r).length + 8 : Nat) : Int) := by
    unfold sizeN
    rw [if_pos (by omega)]
    omega
  have hfp : frameP m n x = (some (frameB (putR r)), 0) := by
    unfold frameP
    rw [show (4 : Int) = ((4 : Nat) : Int) from rfl, r4]
    simp only [Option.getD_some]
    rw [if_pos trivial, if_pos h21, ht, hs, rf]
    rfl
  have hfb := first_back (putR r) [] hb.1 hb.2
  rw [List.append_nil] at hfb
  unfold getP
  rw [hfp]
  simp only [Option.getD_some]
  rw [hfb]
  simp only [get_put hr, Option.isSome_some, Option.getD_some, if_true]
theorem segB_part (n : Int) (us : List Rc) (r : Rc) (bs : List Rc) : (segB n (us ++ r :: bs)).drop (13 + (bytesL us).length) = frS r ++ bytesL bs := by
  have h1 : segB n (us ++ r :: bs) = segB n us ++ (frS r ++ bytesL bs) := by
    unfold segB bytesL frS
    rw [List.map_append, ← List.cons_append, putL_append, List.map_cons]
    rfl
  rw [h1]
  exact List.drop_left' (segB_length n us)
section
variable {m : Dk} {U : Nat} {n : Int} {f : Nat}
theorem Sg.get (hw : SgW m U) {us bs : List Rc} {r : Rc} (h : Sg m n f (us ++ r :: bs)) : getP m n ((13 + (bytesL us).length : Nat) : Int) = (r, 0) := by
  have hr := h.right r (List.mem_append_right _ (List.mem_cons_self ..))
  refine getP_at (bs := segB n (us ++ r :: bs)) hr (fun a k hak => ?_) (segB_part n us r bs) ?_
  · have := hw.well.read h.find (x := a) (k := k) (by rw [h.bytes]; exact hak)
    rw [h.bytes] at this
    exact this
  · have := segB_length n (us ++ r :: bs)
    have h2 : (bytesL (us ++ r :: bs)).length = (bytesL us).length + (bytesL (r :: bs)).length := by
      unfold bytesL
      rw [List.map_append, putL_append, List.length_append]
    omega
theorem nmS_right {n : Int} (hn : 0 ≤ n ∧ n ≤ 99999999) : right (nmS n) = true := by
  have h1 := nmS_some hn
  have h2 := nmS_small n
  rw [ByteArray.toList_eq] at h1
  have h3 : (nmS n) ≠ [] := fun e => by
    have : (nmS n).isEmpty = false := by simpa using h1
    rw [e] at this
    cases this
  have h4 : 1 ≤ (nmS n).length := by
    cases hc : nmS n with
    | nil => exact absurd hc h3
    | cons x l => simp
  unfold right
  rw [decide_eq_true h4, decide_eq_true h2]
  rfl
/-- Segment n, made on a new disk. -/
def B1 (n : Int) : Dk := (makeP A0 n).1
theorem A0well : Well A0 := ⟨by kernel_rfl, neg_one (show A0.cut = -1 by kernel_rfl), neg_one (show A0.fail = -1 by kernel_rfl)⟩
theorem first_len (n : Int) : (putB (firstS n)).length = 13 := by rw [putB_good (good_first n), frameB_length, firstS_length]
theorem made_new {n : Int} (hn : 0 ≤ n ∧ n ≤ 99999999) : makeP A0 n = (((A0.doCreate (nmS n)).bump.doAppend 0 (putB (firstS n))).bump, 0) := by
  have hc := A0well.create (nmS_right hn) (show Dir.find (nmS n) A0.names = none from rfl) (by rw [show A0.names.length = 0 by kernel_rfl]; omega)
  have hf : Dir.find (nmS n) (A0.doCreate (nmS n)).bump.names = some 0 := find_put_same (nmS n) 0 []
  have hw : Well (A0.doCreate (nmS n)).bump := ⟨A0well.down, A0well.cut, A0well.fail⟩
  have ha := hw.append hf (b := putB (firstS n)) (by
    rw [first_len, show (A0.doCreate (nmS n)).bump.used = 0 from rfl, show (A0.doCreate (nmS n)).bump.most = 16777216 from rfl, IntWalk.wrap64_in _ (by omega)]
    omega)
  unfold makeP
  rw [hc]
  dsimp only
  rw [if_pos rfl, ha]
  rfl
theorem B1made {n : Int} (hn : 0 ≤ n ∧ n ≤ 99999999) : (makeP A0 n).2 = 0 := by rw [made_new hn]
theorem B1w {n : Int} (hn : 0 ≤ n ∧ n ≤ 99999999) : SgW (B1 n) 13 := by
  unfold B1
  rw [made_new hn]
  refine ⟨⟨A0well.down, A0well.cut, A0well.fail⟩, rfl, ?_⟩
  show wrap64 (0 + ((putB (firstS n)).length : Nat)) = _
  rw [first_len, IntWalk.wrap64_in _ (by omega)]
  omega
theorem B1sg {n : Int} (hn : 0 ≤ n ∧ n ≤ 99999999) : Sg (B1 n) n 0 [] := by
  unfold B1
  rw [made_new hn]
  refine ⟨find_put_same (nmS n) 0 [], ?_, fun r hr => by cases hr⟩
  rw [app_bytes]
  show [] ++ putB (firstS n) = putB (firstS n) ++ []
  rw [List.append_nil]
  rfl
theorem B1ok (n : Int) : DkOk 8202 (B1 n) := (A0ok.make n).mono (by omega)
end
/-- Records a stand in segment n, which is alone; so many were added at most. -/
structure SB (m : Dk) (n : Int) (a : List Rc) (k : Nat) : Prop where
  w : ∃ U, SgW m U ∧ U ≤ 13 + 8200 * k
  sg : Sg m n 0 a
  ok : DkOk (8202 + 8200 * k) m
  len : (segB n a).length ≤ 13 + 8200 * k
theorem SB.start {n : Int} (hn : 0 ≤ n ∧ n ≤ 99999999) : SB (B1 n) n [] 0 := ⟨⟨13, B1w hn, by omega⟩, B1sg hn, (B1ok n).mono (by omega), by rw [segB_length]; simp [bytesL, putL]⟩
section
variable {m : Dk} {n : Int} {a : List Rc} {k : Nat}
theorem SB.right (h : SB m n a k) (hk : k ≤ 200) {r : Rc} (hr : RightR r) : (addP m n r).2 = (((segB n a).length : Int), ((frS r).length : Int), 0) ∧ SB (addP m n r).1 n (a ++ [r]) (k + 1) := by
  obtain ⟨U, hw, hU⟩ := h.w
  have hok := (h.ok.added n r).mono (show 8202 + 8200 * k + (frS r).length ≤ 8202 + 8200 * (k + 1) by have := frS_small r; omega)
  have hs := frS_small r
  have e := h.sg.add hw hr (by omega)
  rw [e] at hok ⊢
  exact ⟨rfl, ⟨U + (frS r).length, hw.add 0 (by omega), by omega⟩, h.sg.added hr, hok, by have := h.len; rw [segB_snoc, List.length_append]; omega⟩
theorem SB.ill (h : SB m n a k) {r : Rc} (hr : ¬ RightR r) : (addP m n r).2 = (0, 0, 1) ∧ SB (addP m n r).1 n a (k + 1) := by
  obtain ⟨U, hw, hU⟩ := h.w
  rw [add_ill m n hr]
  exact ⟨rfl, ⟨U, hw, by omega⟩, h.sg, h.ok.mono (by omega), by have := h.len; omega⟩
theorem SB.all (h : SB m n a k) : segAllP m n = (foundL a 13, 0, 0) := by
  obtain ⟨U, hw, hU⟩ := h.w
  exact h.sg.all hw
theorem SB.get {us bs : List Rc} {r : Rc} (h : SB m n (us ++ r :: bs) k) : getP m n ((13 + (bytesL us).length : Nat) : Int) = (r, 0) := by
  obtain ⟨U, hw, hU⟩ := h.w
  exact h.sg.get hw
end
/-- The i-th that is found, and what is ahead of it. -/
theorem foundL_at : ∀ (rs : List Rc) (i a : Nat) (x : Fn), (foundL rs a)[i]? = some x → ∃ us r bs, rs = us ++ r :: bs ∧ us.length = i ∧ x = (a + (bytesL us).length, (frS r).length, r)
  | [], _, _, _, h => by cases h
  | r :: rs, 0, a, x, h => ⟨[], r, rs, rfl, rfl, by
      simp only [foundL, List.getElem?_cons_zero, Option.some.injEq] at h
      rw [← h]
      rfl⟩
  | r :: rs, i + 1, a, x, h => by
    simp only [foundL, List.getElem?_cons_succ] at h
    obtain ⟨us, r', bs, h1, h2, h3⟩ := foundL_at rs i _ x h
    refine ⟨r :: us, r', bs, by rw [h1]; rfl, by rw [List.length_cons, h2], ?_⟩
    rw [h3]
    have e : (bytesL (r :: us)).length = (frS r).length + (bytesL us).length := by
      show (putB (putR r) ++ putL (us.map putR)).length = _
      rw [List.length_append]
      rfl
    rw [e, Nat.add_assoc]
/-- Each begins where the one ahead of it ends. -/
theorem foundL_next (rs : List Rc) (i a : Nat) {x y : Fn} (hx : (foundL rs a)[i]? = some x) (hy : (foundL rs a)[i + 1]? = some y) : y.1 = x.1 + x.2.1 := by
  induction rs generalizing i a with
  | nil => cases hx
  | cons r rs ih =>
    cases i with
    | zero =>
      simp only [foundL, List.getElem?_cons_zero, Option.some.injEq] at hx
      cases rs with
      | nil => simp [foundL] at hy
      | cons r2 rs =>
        simp only [foundL, List.getElem?_cons_zero, List.getElem?_cons_succ, Option.some.injEq] at hy
        rw [← hx, ← hy]
    | succ i =>
      simp only [foundL, List.getElem?_cons_succ] at hx hy
      exact ih i _ hx hy
end Go.Proofs.Ytdkpbphgaenlnaa

/-
  Records that came in, as a list.
-/
namespace Go.Proofs.Ytdkpbphgaenlnaa
open Go.ChangeShapes Go.WideShapes Go.ChangeAt Go.RowKit
set_option linter.unusedVariables false

instance : Inhabited (Rc × Fh) := ⟨(Rc.none, ((Option.none, 0, 0), (Option.none, 0, 0)))⟩
def rcL (x : Rc) (p : Fh) : List Value := [.int .i64 x.kind, .string ⟨x.key.toArray⟩, .int .i64 x.id, .int .i64 x.no, .int .i64 x.size, .slice p.1.1 p.1.2.1 p.1.2.2, .slice p.2.1 p.2.2.1 p.2.2.2]
/-- The list, as functions are handed it. -/
structure Recs (w : World) (A : Option Addr) (n c : Nat) (rs : List Rc) : Prop where
  len : rs.length = n
  cap : n ≤ c
  spot : ∀ i, i < n → ∃ (ad : Addr) (r : Rc) (p : Fh), A = some ad ∧ ad.block < w.heap.size ∧ rs[i]? = some r ∧ RcIn w p.1.1 p.1.2.1 p.1.2.2 p.2.1 p.2.2.1 p.2.2.2 r ∧ ∀ k, k < 7 → w.cell? ((ad.add (i * 7)).add k) = (rcL r p)[k]?
theorem Recs.grow {w w' : World} {A : Option Addr} {n c : Nat} {rs : List Rc} (h : Recs w A n c rs) (hg : Grows w w') : Recs w' A n c rs := by
  refine ⟨h.len, h.cap, fun i hi => ?_⟩
  obtain ⟨ad, o, p, h1, h2, h3, h4, h5⟩ := h.spot i hi
  exact ⟨ad, o, p, h1, Nat.lt_of_lt_of_le h2 hg.size, h3, h4.grow hg, fun k hk => by rw [hg.cell (by rw [add_block, add_block]; exact h2)]; exact h5 k hk⟩
theorem rc_cells {w wr : World} {a : Addr} {o : Rc} {p : Fh} (hb : a.block < w.heap.size) (hc : ∀ k, k < 7 → w.cell? (a.add k) = (rcL o p)[k]?) (hg : Grows w wr) :
    wr.cell? a = some (.int .i64 o.kind) ∧ wr.cell? { block := a.block, off := a.off + 1 } = some (.string ⟨o.key.toArray⟩) ∧ wr.cell? { block := a.block, off := a.off + 2 } = some (.int .i64 o.id) ∧
      wr.cell? { block := a.block, off := a.off + 3 } = some (.int .i64 o.no) ∧ wr.cell? { block := a.block, off := a.off + 4 } = some (.int .i64 o.size) ∧ wr.cell? { block := a.block, off := a.off + 5 } = some (.slice p.1.1 p.1.2.1 p.1.2.2) ∧
      wr.cell? { block := a.block, off := a.off + 6 } = some (.slice p.2.1 p.2.2.1 p.2.2.2) := by
  have key : ∀ k, k < 7 → wr.cell? (a.add k) = (rcL o p)[k]? := fun k hk => (hg.cell (by rw [add_block]; exact hb)).trans (hc k hk)
  have h0 := key 0 (by omega)
  rw [show a.add 0 = a by unfold Addr.add; simp] at h0
  have h1 := key 1 (by omega)
  have h2 := key 2 (by omega)
  have h3 := key 3 (by omega)
  have h4 := key 4 (by omega)
  have h5 := key 5 (by omega)
  have h6 := key 6 (by omega)
  rw [Addr.add_succ'] at h1 h2 h3 h4 h5 h6
  exact ⟨h0, h1, h2, h3, h4, h5, h6⟩

section
variable {H : Type} {enc : TypeId × Value → H} {W : World} {base : Nat} {r : Reach}
set_option maxRecDepth 100000 in
theorem open_recs {v : Value} {d : DataW H} {p : List MemPlace} (hv : Value.okWide Try.prog W r base 54 v) (h : DataW.Trod enc Try.prog W 0 (fun _ => true) true 54 v d p) :
    ∃ A n c rs, v = .slice A n c ∧ Recs W A n c rs := by
  obtain ⟨A, n, c, rfl⟩ := okWide_slice Try.underlying54 hv
  obtain ⟨fuel, hf⟩ := h
  have ce : Try.prog.cellsOf 59 = 7 := by kernel_rfl
  have c_int : Try.prog.cellsOf 3 = 1 := by kernel_rfl
  have c_string : Try.prog.cellsOf 9 = 1 := by kernel_rfl
  have c_int64 : Try.prog.cellsOf 2 = 1 := by kernel_rfl
  have c_sapi_Loc : Try.prog.cellsOf 57 = 1 := by kernel_rfl
  have c_suint8 : Try.prog.cellsOf 25 = 1 := by kernel_rfl
  rcases DataW.trod_slice Try.underlying54 hf with ⟨hcs, _⟩ | ⟨ad, len, cap, elems, rest, k, _, hcs, hxd, _, hl, hmx, hlen, hel, _⟩
  · simp [Value.cells] at hcs
    obtain ⟨rfl, rfl, rfl⟩ := hcs
    exact ⟨none, 0, 0, [], rfl, ⟨rfl, Nat.le_refl _, fun i hi => absurd hi (Nat.not_lt_zero i)⟩⟩
  · simp [Value.cells] at hcs
    obtain ⟨rfl, rfl, rfl⟩ := hcs
    have each : ∀ i, i < n → ∃ q : Rc × Fh, RcIn W q.2.1.1 q.2.1.2.1 q.2.1.2.2 q.2.2.1 q.2.2.2.1 q.2.2.2.2 q.1 ∧ ∀ k, k < 7 → W.cell? ((ad.add (i * 7)).add k) = (rcL q.1 q.2)[k]? := by
      intro i hi
      have h1 := hel i hi
      have hei : elems[i]? = some elems[i] := List.getElem?_eq_getElem (by omega)
      rw [ce, hei] at h1
      obtain ⟨cs', h2, h3⟩ := Option.bind_eq_some_iff.1 h1
      obtain ⟨_, hlen', hcell⟩ := World.cells?_some h2
      obtain ⟨ys, k', _, hxa, _, hyl, hf⟩ := DataW.trod_struct Try.underlying59 h3
      match ys, hyl, cs', hlen' with
      | [y0, y1, y2, y3, y4, y5, y6], _, [v0, v1, v2, v3, v4, v5, v6], _ =>
        have g0 : DataW.trod enc Try.prog W 0 (fun _ => true) true k' 3 [v0] = some y0 := by
          have h := hf 0 { name := "Kind", type := 3, offset := 0, embedded := false, tag := "", pkgPath := "", byteOffset := 0 } rfl
          dsimp only at h
          rw [c_int] at h
          exact h
        have g1 : DataW.trod enc Try.prog W 0 (fun _ => true) true k' 9 [v1] = some y1 := by
          have h := hf 1 { name := "Key", type := 9, offset := 1, embedded := false, tag := "", pkgPath := "", byteOffset := 8 } rfl
          dsimp only at h
          rw [c_string] at h
          exact h
        have g2 : DataW.trod enc Try.prog W 0 (fun _ => true) true k' 2 [v2] = some y2 := by
          have h := hf 2 { name := "Id", type := 2, offset := 2, embedded := false, tag := "", pkgPath := "", byteOffset := 24 } rfl
          dsimp only at h
          rw [c_int64] at h
          exact h
        have g3 : DataW.trod enc Try.prog W 0 (fun _ => true) true k' 3 [v3] = some y3 := by
          have h := hf 3 { name := "No", type := 3, offset := 3, embedded := false, tag := "", pkgPath := "", byteOffset := 32 } rfl
          dsimp only at h
          rw [c_int] at h
          exact h
        have g4 : DataW.trod enc Try.prog W 0 (fun _ => true) true k' 3 [v4] = some y4 := by
          have h := hf 4 { name := "Size", type := 3, offset := 4, embedded := false, tag := "", pkgPath := "", byteOffset := 40 } rfl
          dsimp only at h
          rw [c_int] at h
          exact h
        have g5 : DataW.trod enc Try.prog W 0 (fun _ => true) true k' 57 [v5] = some y5 := by
          have h := hf 5 { name := "Locs", type := 57, offset := 5, embedded := false, tag := "", pkgPath := "", byteOffset := 48 } rfl
          dsimp only at h
          rw [c_sapi_Loc] at h
          exact h
        have g6 : DataW.trod enc Try.prog W 0 (fun _ => true) true k' 25 [v6] = some y6 := by
          have h := hf 6 { name := "B", type := 25, offset := 6, embedded := false, tag := "", pkgPath := "", byteOffset := 72 } rfl
          dsimp only at h
          rw [c_suint8] at h
          exact h
        obtain ⟨z0, e0, _⟩ := DataW.trod_int Try.underlying3 g0
        obtain ⟨z1, e1, _⟩ := DataW.trod_string Try.underlying9 g1
        obtain ⟨z2, e2, _⟩ := DataW.trod_int Try.underlying2 g2
        obtain ⟨z3, e3, _⟩ := DataW.trod_int Try.underlying3 g3
        obtain ⟨z4, e4, _⟩ := DataW.trod_int Try.underlying3 g4
        obtain ⟨LA, ln, lc, ls, e5, hL⟩ := open_locs g5
        obtain ⟨BA, bn, bc, bs, e6, hB⟩ := open_sl g6
        have c0 := hcell 0 (by omega)
        have c1 := hcell 1 (by omega)
        have c2 := hcell 2 (by omega)
        have c3 := hcell 3 (by omega)
        have c4 := hcell 4 (by omega)
        have c5 := hcell 5 (by omega)
        have c6 := hcell 6 (by omega)
        simp at c0 c1 c2 c3 c4 c5 c6 e0 e1 e2 e3 e4
        subst e0 e1 e2 e3 e4 e5 e6
        refine ⟨(⟨z0, z1.data.toList, z2, z3, z4, ls, bs⟩, ((LA, ln, lc), (BA, bn, bc))), ⟨hL, hB⟩, fun k hk => ?_⟩
        match k, hk with
        | 0, _ => exact c0
        | 1, _ => exact c1
        | 2, _ => exact c2
        | 3, _ => exact c3
        | 4, _ => exact c4
        | 5, _ => exact c5
        | 6, _ => exact c6
    obtain ⟨f, hf⟩ := Go.Deep.choose_lt each
    refine ⟨some ad, n, c, (List.range n).map fun i => (f i).1, rfl, ⟨by simp, hl, fun i hi => ?_⟩⟩
    obtain ⟨h1, h2⟩ := hf i hi
    refine ⟨ad, (f i).1, (f i).2, rfl, ?_, by rw [List.getElem?_map, List.getElem?_range hi]; rfl, h1, h2⟩
    have := World.block_lt_of_cell? W _ (h2 0 (by omega) : _ = some (Value.int .i64 (f i).1.kind))
    rwa [add_block, add_block] at this
end
end Go.Proofs.Ytdkpbphgaenlnaa

/-
  Are found records alike? The answer's look.
-/
namespace Go.Proofs.Ytdkpbphgaenlnaa
open Go.RowKit
set_option linter.unusedVariables false
set_option linter.unusedSimpArgs false
attribute [local irreducible] wpF
def fnsOf (l : List (Fn × Fh)) : List Fn := l.map (·.1)
theorem fns_take {l1 l2 : List (Fn × Fh)} {j : Nat} {p q : Fn × Fh} (h : fnsOf (l1.take j) = fnsOf (l2.take j)) (h1 : l1[j]? = some p) (h2 : l2[j]? = some q) (he : p.1 = q.1) : fnsOf (l1.take (j + 1)) = fnsOf (l2.take (j + 1)) := by
  unfold fnsOf at *
  rw [List.take_add_one, List.take_add_one, List.map_append, List.map_append, h, h1, h2]
  simp [he]
theorem fns_not {l1 l2 : List (Fn × Fh)} {j : Nat} {p q : Fn × Fh} (h1 : l1[j]? = some p) (h2 : l2[j]? = some q) (he : p.1 ≠ q.1) : fnsOf l1 ≠ fnsOf l2 := fun e => he (by
  have := congrArg (fun l : List Fn => l[j]?) e
  unfold fnsOf at this
  simp only [List.getElem?_map, h1, h2, Option.map_some, Option.some.injEq] at this
  exact this)
set_option maxRecDepth 100000 in
set_option maxHeartbeats 4000000 in
theorem sameF_any (w : World) (l1 l2 : List (Fn × Fh)) (X1 : Option Addr) (n c1 : Nat) (X2 : Option Addr) (n2 c2 : Nat) (h1 : Fnds w X1 n l1) (h2 : Fnds w X2 n2 l2) (hn : n ≤ 1000000) (hb : ∀ p ∈ l1, p.2.1.2.1 ≤ 1000000) :
    Calls Try.prog 35 #[.slice X1 n c1, .slice X2 n2 c2] w fun e w' => e = .returned (.bool (decide (fnsOf l1 = fnsOf l2))) ∧ Grows w w' := by
  have hl1 := h1.row.len
  have hl2 := h2.row.len
  obtain ⟨b, hbb⟩ : ∃ b, decide (fnsOf l1 = fnsOf l2) = b := ⟨_, rfl⟩
  rw [hbb]
  have HBB := Lib.hid hbb
  have H1 := Lib.hid (And.intro h1 (And.intro hl1 hb))
  have H2 := Lib.hid (And.intro h2 hl2)
  clear hbb h1 h2 hb
  by_cases hnn : n = n2
  rotate_left 1
  · have hq : ((n : Int) != (n2 : Int)) = true := by rw [bne_iff_ne]; omega
    have hbf : b = false := by
      rw [← HBB.out]
      refine decide_eq_false fun e => hnn ?_
      have := congrArg List.length e
      unfold fnsOf at this
      rw [List.length_map, List.length_map, hl1, hl2] at this
      exact this
    have HBF := Lib.hid hbf
    clear hnn hbf hl1 hl2
    go_enter Try.func35, Try.ntmps35
    go_wp2_with (fail)
    go_ret
    rw [HBF.out]
    exact ⟨rfl, Grows.refl _⟩
  subst hnn
  clear hl1 hl2
  go_enter Try.func35, Try.ntmps35
  go_wp2_with (fail)
  go_loopw [5] (fun i wr => ∃ (j : Nat), j ≤ n ∧ i = .int .i64 (j : Int) ∧ Hid (fnsOf (l1.take j) = fnsOf (l2.take j)) ∧ Hid (Grows w wr)) (fun i _ => n - (intOf i).toNat)
  case atStart => exact ⟨0, by omega, rfl, Lib.hid rfl, Lib.hid (Grows.refl _)⟩
  case round =>
    obtain ⟨j, hj, rfl, HT, HG⟩ := hrel
    by_cases hlt : j < n
    · have hlt' : (j : Int) < (n : Int) := by omega
      have hj0 : (0 : Int) ≤ (j : Int) := by omega
      have hwj : IntKind.i64.wrap ((j : Int) + 1) = (j : Int) + 1 := IntWalk.i64_in _ (by omega)
      obtain ⟨p, hp⟩ : ∃ p, l1[j]? = some p := ⟨_, List.getElem?_eq_getElem (by rw [H1.out.2.1]; exact hlt)⟩
      obtain ⟨q, hq⟩ : ∃ q, l2[j]? = some q := ⟨_, List.getElem?_eq_getElem (by rw [H2.out.2]; exact hlt)⟩
      obtain ⟨g1, rfl, hg1, k1⟩ := H1.out.1.row.spot j p hp
      obtain ⟨g2, rfl, hg2, k2⟩ := H2.out.1.row.spot j q hq
      have r1 := H1.out.1.recs p (List.mem_of_getElem? hp)
      have r2 := H2.out.1.recs q (List.mem_of_getElem? hq)
      have hpb := H1.out.2.2 p (List.mem_of_getElem? hp)
      have HPQ := Lib.hid (And.intro hp hq)
      obtain ⟨⟨x0, x1, r1'⟩, ⟨L1, a1, b1⟩, ⟨B1, d1, e1⟩⟩ := p
      obtain ⟨⟨y0, y1, r2'⟩, ⟨L2, a2, b2⟩, ⟨B2, d2, e2⟩⟩ := q
      dsimp only at r1 r2 hpb
      have HC1 := Lib.hid (show ∀ w', Grows wr w' → w'.cell? { block := g1, off := j * 9 } = some (.int .i64 (x0 : Nat)) ∧ w'.cell? { block := g1, off := j * 9 + 1 } = some (.int .i64 (x1 : Nat)) ∧ w'.cell? { block := g1, off := j * 9 + 2 } = some (.int .i64 r1'.kind) ∧ w'.cell? { block := g1, off := j * 9 + 3 } = some (.string ⟨r1'.key.toArray⟩) ∧ w'.cell? { block := g1, off := j * 9 + 4 } = some (.int .i64 r1'.id) ∧ w'.cell? { block := g1, off := j * 9 + 5 } = some (.int .i64 r1'.no) ∧ w'.cell? { block := g1, off := j * 9 + 6 } = some (.int .i64 r1'.size) ∧ w'.cell? { block := g1, off := j * 9 + 7 } = some (.slice L1 a1 b1) ∧ w'.cell? { block := g1, off := j * 9 + 8 } = some (.slice B1 d1 e1) from fun w' hC => by
        have key : ∀ i, i < 9 → w'.cell? ⟨g1, j * 9 + i, none⟩ = (fnE ((x0, x1, r1'), (L1, a1, b1), (B1, d1, e1)))[i]? := fun i hi => ((Grows.trans HG.out hC).cell (show (⟨g1, j * 9 + i, none⟩ : Addr).block < w.heap.size from hg1)).trans (k1 i hi)
        exact ⟨key 0 (by omega), key 1 (by omega), key 2 (by omega), key 3 (by omega), key 4 (by omega), key 5 (by omega), key 6 (by omega), key 7 (by omega), key 8 (by omega)⟩)
      have HC2 := Lib.hid (show ∀ w', Grows wr w' → w'.cell? { block := g2, off := j * 9 } = some (.int .i64 (y0 : Nat)) ∧ w'.cell? { block := g2, off := j * 9 + 1 } = some (.int .i64 (y1 : Nat)) ∧ w'.cell? { block := g2, off := j * 9 + 2 } = some (.int .i64 r2'.kind) ∧ w'.cell? { block := g2, off := j * 9 + 3 } = some (.string ⟨r2'.key.toArray⟩) ∧ w'.cell? { block := g2, off := j * 9 + 4 } = some (.int .i64 r2'.id) ∧ w'.cell? { block := g2, off := j * 9 + 5 } = some (.int .i64 r2'.no) ∧ w'.cell? { block := g2, off := j * 9 + 6 } = some (.int .i64 r2'.size) ∧ w'.cell? { block := g2, off := j * 9 + 7 } = some (.slice L2 a2 b2) ∧ w'.cell? { block := g2, off := j * 9 + 8 } = some (.slice B2 d2 e2) from fun w' hC => by
        have key : ∀ i, i < 9 → w'.cell? ⟨g2, j * 9 + i, none⟩ = (fnE ((y0, y1, r2'), (L2, a2, b2), (B2, d2, e2)))[i]? := fun i hi => ((Grows.trans HG.out hC).cell (show (⟨g2, j * 9 + i, none⟩ : Addr).block < w.heap.size from hg2)).trans (k2 i hi)
        exact ⟨key 0 (by omega), key 1 (by omega), key 2 (by omega), key 3 (by omega), key 4 (by omega), key 5 (by omega), key 6 (by omega), key 7 (by omega), key 8 (by omega)⟩)
      have HSA := Lib.hid (fun w' (hC : Grows wr w') => same_any r1' r2' L1 a1 b1 B1 d1 e1 L2 a2 b2 B2 d2 e2 w' (r1.grow (Grows.trans HG.out hC)) (r2.grow (Grows.trans HG.out hC)) hpb)
      have HLT := Lib.hid hlt
      clear hp hq hg1 hg2 k1 k2 r1 r2 hpb
      by_cases hx0 : x0 = y0
      rotate_left 1
      · have hz : ((x0 : Int) != (y0 : Int)) = true := by rw [bne_iff_ne]; omega
        have HBF := Lib.hid (show b = false by rw [← HBB.out]; exact decide_eq_false (fns_not HPQ.out.1 HPQ.out.2 fun e => hx0 (by injection e)))
        clear hx0
        go_wp2_with (fail)
        refine wp_region_facts (E := Grows) [valFact (.slice (some ⟨g1, 0, none⟩) n c1), valFact (.int .i64 (j : Int)), valFact (.pointer (some ⟨g1, j * 9, none⟩)), valFact (.pointer (some ⟨g1, j * 9, none⟩)), valFact (.int .i64 (x0 : Nat)), valFact (.slice (some ⟨g2, 0, none⟩) n c2), valFact (.int .i64 (j : Int)), valFact (.pointer (some ⟨g2, j * 9, none⟩)), valFact (.pointer (some ⟨g2, j * 9, none⟩)), valFact (.int .i64 (y0 : Nat)), valFact (.bool true), valFact (.bool true), valFact undef, valFact undef, valFact undef, valFact undef, valFact undef, valFact undef, valFact undef, valFact undef, valFact undef, valFact undef, valFact undef, valFact (.bool true), valFact (.bool true), valFact undef, valFact undef, valFact undef, valFact undef, valFact undef, valFact undef, valFact undef, valFact undef, valFact undef, valFact undef, valFact undef, valFact undef, valFact (.bool true)] (by kernel_rfl) (by kernel_rfl) (fun _ _ _ => Grows.trans) (grows_drew _) ?_
        refine f_val (.slice (some ⟨g1, 0, none⟩) n c1) (by rfl) ?_ ?_
        · intro w' hC; clear hC; first | (go_simp; done)
        simp only [Act.put, List.setIfInBounds_toArray, List.set_cons_zero, List.set_cons_succ]
        refine f_val (.int .i64 (j : Int)) (by rfl) ?_ ?_
        · intro w' hC; clear hC; first | (go_simp; done)
        simp only [Act.put, List.setIfInBounds_toArray, List.set_cons_zero, List.set_cons_succ]
        refine f_val (.pointer (some ⟨g1, j * 9, none⟩)) (by rfl) ?_ ?_
        · intro w' hC; clear hC; first | (go_simp; done)
        simp only [Act.put, List.setIfInBounds_toArray, List.set_cons_zero, List.set_cons_succ]
        refine f_val (.pointer (some ⟨g1, j * 9, none⟩)) (by rfl) ?_ ?_
        · intro w' hC; clear hC; first | (go_simp; done)
        simp only [Act.put, List.setIfInBounds_toArray, List.set_cons_zero, List.set_cons_succ]
        refine f_val (.int .i64 (x0 : Nat)) (by rfl) ?_ ?_
        · intro w' hC; obtain ⟨z0, z1, z2, z3, z4, z5, z6, z7, z8⟩ := HC1.out w' hC; clear hC; first | (go_simp; done)
        simp only [Act.put, List.setIfInBounds_toArray, List.set_cons_zero, List.set_cons_succ]
        refine f_val (.slice (some ⟨g2, 0, none⟩) n c2) (by rfl) ?_ ?_
        · intro w' hC; clear hC; first | (go_simp; done)
        simp only [Act.put, List.setIfInBounds_toArray, List.set_cons_zero, List.set_cons_succ]
        refine f_val (.int .i64 (j : Int)) (by rfl) ?_ ?_
        · intro w' hC; clear hC; first | (go_simp; done)
        simp only [Act.put, List.setIfInBounds_toArray, List.set_cons_zero, List.set_cons_succ]
        refine f_val (.pointer (some ⟨g2, j * 9, none⟩)) (by rfl) ?_ ?_
        · intro w' hC; clear hC; first | (go_simp; done)
        simp only [Act.put, List.setIfInBounds_toArray, List.set_cons_zero, List.set_cons_succ]
        refine f_val (.pointer (some ⟨g2, j * 9, none⟩)) (by rfl) ?_ ?_
        · intro w' hC; clear hC; first | (go_simp; done)
        simp only [Act.put, List.setIfInBounds_toArray, List.set_cons_zero, List.set_cons_succ]
        refine f_val (.int .i64 (y0 : Nat)) (by rfl) ?_ ?_
        · intro w' hC; obtain ⟨z0, z1, z2, z3, z4, z5, z6, z7, z8⟩ := HC2.out w' hC; clear hC; first | (go_simp; done)
        simp only [Act.put, List.setIfInBounds_toArray, List.set_cons_zero, List.set_cons_succ]
        refine f_val (.bool true) (by rfl) ?_ ?_
        · intro w' hC; clear hC; first | (go_simp; done)
        simp only [Act.put, List.setIfInBounds_toArray, List.set_cons_zero, List.set_cons_succ]
        refine f_val (.bool true) (by rfl) ?_ ?_
        · intro w' hC; clear hC; first | (go_simp; done)
        simp only [Act.put, List.setIfInBounds_toArray, List.set_cons_zero, List.set_cons_succ]
        refine f_skip (by rfl) ?_
        simp only [Act.put, List.setIfInBounds_toArray, List.set_cons_zero, List.set_cons_succ]
        refine f_skip (by rfl) ?_
        simp only [Act.put, List.setIfInBounds_toArray, List.set_cons_zero, List.set_cons_succ]
        refine f_skip (by rfl) ?_
        simp only [Act.put, List.setIfInBounds_toArray, List.set_cons_zero, List.set_cons_succ]
        refine f_skip (by rfl) ?_
        simp only [Act.put, List.setIfInBounds_toArray, List.set_cons_zero, List.set_cons_succ]
        refine f_skip (by rfl) ?_
        simp only [Act.put, List.setIfInBounds_toArray, List.set_cons_zero, List.set_cons_succ]
        refine f_skip (by rfl) ?_
        simp only [Act.put, List.setIfInBounds_toArray, List.set_cons_zero, List.set_cons_succ]
        refine f_skip (by rfl) ?_
        simp only [Act.put, List.setIfInBounds_toArray, List.set_cons_zero, List.set_cons_succ]
        refine f_skip (by rfl) ?_
        simp only [Act.put, List.setIfInBounds_toArray, List.set_cons_zero, List.set_cons_succ]
        refine f_skip (by rfl) ?_
        simp only [Act.put, List.setIfInBounds_toArray, List.set_cons_zero, List.set_cons_succ]
        refine f_skip (by rfl) ?_
        simp only [Act.put, List.setIfInBounds_toArray, List.set_cons_zero, List.set_cons_succ]
        refine f_skip (by rfl) ?_
        simp only [Act.put, List.setIfInBounds_toArray, List.set_cons_zero, List.set_cons_succ]
        refine f_val (.bool true) (by rfl) ?_ ?_
        · intro w' hC; clear hC; first | (go_simp; done)
        simp only [Act.put, List.setIfInBounds_toArray, List.set_cons_zero, List.set_cons_succ]
        refine f_val (.bool true) (by rfl) ?_ ?_
        · intro w' hC; clear hC; first | (go_simp; done)
        simp only [Act.put, List.setIfInBounds_toArray, List.set_cons_zero, List.set_cons_succ]
        refine f_skip (by rfl) ?_
        simp only [Act.put, List.setIfInBounds_toArray, List.set_cons_zero, List.set_cons_succ]
        refine f_skip (by rfl) ?_
        simp only [Act.put, List.setIfInBounds_toArray, List.set_cons_zero, List.set_cons_succ]
        refine f_skip (by rfl) ?_
        simp only [Act.put, List.setIfInBounds_toArray, List.set_cons_zero, List.set_cons_succ]
        refine f_skip (by rfl) ?_
        simp only [Act.put, List.setIfInBounds_toArray, List.set_cons_zero, List.set_cons_succ]
        refine f_skip (by rfl) ?_
        simp only [Act.put, List.setIfInBounds_toArray, List.set_cons_zero, List.set_cons_succ]
        refine f_skip (by rfl) ?_
        simp only [Act.put, List.setIfInBounds_toArray, List.set_cons_zero, List.set_cons_succ]
        refine f_skip (by rfl) ?_
        simp only [Act.put, List.setIfInBounds_toArray, List.set_cons_zero, List.set_cons_succ]
        refine f_skip (by rfl) ?_
        simp only [Act.put, List.setIfInBounds_toArray, List.set_cons_zero, List.set_cons_succ]
        refine f_skip (by rfl) ?_
        simp only [Act.put, List.setIfInBounds_toArray, List.set_cons_zero, List.set_cons_succ]
        refine f_skip (by rfl) ?_
        simp only [Act.put, List.setIfInBounds_toArray, List.set_cons_zero, List.set_cons_succ]
        refine f_skip (by rfl) ?_
        simp only [Act.put, List.setIfInBounds_toArray, List.set_cons_zero, List.set_cons_succ]
        refine f_skip (by rfl) ?_
        simp only [Act.put, List.setIfInBounds_toArray, List.set_cons_zero, List.set_cons_succ]
        refine f_val (.bool true) (by rfl) ?_ ?_
        · intro w' hC; clear hC; first | (go_simp; done)
        simp only [Act.put, List.setIfInBounds_toArray, List.set_cons_zero, List.set_cons_succ]
        refine wpF_end ?_
        intro w5 hC hks
        have HCw5 := Lib.hid hC
        clear hC hks
        go_wp2_with (fail)
        go_ret
        rw [HBF.out]
        exact ⟨rfl, Grows.trans HG.out HCw5.out⟩
      subst hx0
      by_cases hx1 : x1 = y1
      rotate_left 1
      · have hz : ((x1 : Int) != (y1 : Int)) = true := by rw [bne_iff_ne]; omega
        have HBF := Lib.hid (show b = false by rw [← HBB.out]; exact decide_eq_false (fns_not HPQ.out.1 HPQ.out.2 fun e => hx1 (by injection e with _ e; injection e)))
        clear hx1
        go_wp2_with (fail)
        refine wp_region_facts (E := Grows) [valFact (.slice (some ⟨g1, 0, none⟩) n c1), valFact (.int .i64 (j : Int)), valFact (.pointer (some ⟨g1, j * 9, none⟩)), valFact (.pointer (some ⟨g1, j * 9, none⟩)), valFact (.int .i64 (x0 : Nat)), valFact (.slice (some ⟨g2, 0, none⟩) n c2), valFact (.int .i64 (j : Int)), valFact (.pointer (some ⟨g2, j * 9, none⟩)), valFact (.pointer (some ⟨g2, j * 9, none⟩)), valFact (.int .i64 (x0 : Nat)), valFact (.bool false), valFact (.bool false), valFact (.slice (some ⟨g1, 0, none⟩) n c1), valFact (.int .i64 (j : Int)), valFact (.pointer (some ⟨g1, j * 9, none⟩)), valFact (.pointer (some ⟨g1, j * 9 + 1, none⟩)), valFact (.int .i64 (x1 : Nat)), valFact (.slice (some ⟨g2, 0, none⟩) n c2), valFact (.int .i64 (j : Int)), valFact (.pointer (some ⟨g2, j * 9, none⟩)), valFact (.pointer (some ⟨g2, j * 9 + 1, none⟩)), valFact (.int .i64 (y1 : Nat)), valFact (.bool true), valFact (.bool true), valFact (.bool true), valFact undef, valFact undef, valFact undef, valFact undef, valFact undef, valFact undef, valFact undef, valFact undef, valFact undef, valFact undef, valFact undef, valFact undef, valFact (.bool true)] (by kernel_rfl) (by kernel_rfl) (fun _ _ _ => Grows.trans) (grows_drew _) ?_
        refine f_val (.slice (some ⟨g1, 0, none⟩) n c1) (by rfl) ?_ ?_
        · intro w' hC; clear hC; first | (go_simp; done)
        simp only [Act.put, List.setIfInBounds_toArray, List.set_cons_zero, List.set_cons_succ]
        refine f_val (.int .i64 (j : Int)) (by rfl) ?_ ?_
        · intro w' hC; clear hC; first | (go_simp; done)
        simp only [Act.put, List.setIfInBounds_toArray, List.set_cons_zero, List.set_cons_succ]
        refine f_val (.pointer (some ⟨g1, j * 9, none⟩)) (by rfl) ?_ ?_
        · intro w' hC; clear hC; first | (go_simp; done)
        simp only [Act.put, List.setIfInBounds_toArray, List.set_cons_zero, List.set_cons_succ]
        refine f_val (.pointer (some ⟨g1, j * 9, none⟩)) (by rfl) ?_ ?_
        · intro w' hC; clear hC; first | (go_simp; done)
        simp only [Act.put, List.setIfInBounds_toArray, List.set_cons_zero, List.set_cons_succ]
        refine f_val (.int .i64 (x0 : Nat)) (by rfl) ?_ ?_
        · intro w' hC; obtain ⟨z0, z1, z2, z3, z4, z5, z6, z7, z8⟩ := HC1.out w' hC; clear hC; first | (go_simp; done)
        simp only [Act.put, List.setIfInBounds_toArray, List.set_cons_zero, List.set_cons_succ]
        refine f_val (.slice (some ⟨g2, 0, none⟩) n c2) (by rfl) ?_ ?_
        · intro w' hC; clear hC; first | (go_simp; done)
        simp only [Act.put, List.setIfInBounds_toArray, List.set_cons_zero, List.set_cons_succ]
        refine f_val (.int .i64 (j : Int)) (by rfl) ?_ ?_
        · intro w' hC; clear hC; first | (go_simp; done)
        simp only [Act.put, List.setIfInBounds_toArray, List.set_cons_zero, List.set_cons_succ]
        refine f_val (.pointer (some ⟨g2, j * 9, none⟩)) (by rfl) ?_ ?_
        · intro w' hC; clear hC; first | (go_simp; done)
        simp only [Act.put, List.setIfInBounds_toArray, List.set_cons_zero, List.set_cons_succ]
        refine f_val (.pointer (some ⟨g2, j * 9, none⟩)) (by rfl) ?_ ?_
        · intro w' hC; clear hC; first | (go_simp; done)
        simp only [Act.put, List.setIfInBounds_toArray, List.set_cons_zero, List.set_cons_succ]
        refine f_val (.int .i64 (x0 : Nat)) (by rfl) ?_ ?_
        · intro w' hC; obtain ⟨z0, z1, z2, z3, z4, z5, z6, z7, z8⟩ := HC2.out w' hC; clear hC; first | (go_simp; done)
        simp only [Act.put, List.setIfInBounds_toArray, List.set_cons_zero, List.set_cons_succ]
        refine f_val (.bool false) (by rfl) ?_ ?_
        · intro w' hC; clear hC; first | (go_simp; done)
        simp only [Act.put, List.setIfInBounds_toArray, List.set_cons_zero, List.set_cons_succ]
        refine f_val (.bool false) (by rfl) ?_ ?_
        · intro w' hC; clear hC; first | (go_simp; done)
        simp only [Act.put, List.setIfInBounds_toArray, List.set_cons_zero, List.set_cons_succ]
        refine f_val (.slice (some ⟨g1, 0, none⟩) n c1) (by rfl) ?_ ?_
        · intro w' hC; clear hC; first | (go_simp; done)
        simp only [Act.put, List.setIfInBounds_toArray, List.set_cons_zero, List.set_cons_succ]
        refine f_val (.int .i64 (j : Int)) (by rfl) ?_ ?_
        · intro w' hC; clear hC; first | (go_simp; done)
        simp only [Act.put, List.setIfInBounds_toArray, List.set_cons_zero, List.set_cons_succ]
        refine f_val (.pointer (some ⟨g1, j * 9, none⟩)) (by rfl) ?_ ?_
        · intro w' hC; clear hC; first | (go_simp; done)
        simp only [Act.put, List.setIfInBounds_toArray, List.set_cons_zero, List.set_cons_succ]
        refine f_val (.pointer (some ⟨g1, j * 9 + 1, none⟩)) (by rfl) ?_ ?_
        · intro w' hC; clear hC; first | (go_simp; done)
        simp only [Act.put, List.setIfInBounds_toArray, List.set_cons_zero, List.set_cons_succ]
        refine f_val (.int .i64 (x1 : Nat)) (by rfl) ?_ ?_
        · intro w' hC; obtain ⟨z0, z1, z2, z3, z4, z5, z6, z7, z8⟩ := HC1.out w' hC; clear hC; first | (go_simp; done)
        simp only [Act.put, List.setIfInBounds_toArray, List.set_cons_zero, List.set_cons_succ]
        refine f_val (.slice (some ⟨g2, 0, none⟩) n c2) (by rfl) ?_ ?_
        · intro w' hC; clear hC; first | (go_simp; done)
        simp only [Act.put, List.setIfInBounds_toArray, List.set_cons_zero, List.set_cons_succ]
        refine f_val (.int .i64 (j : Int)) (by rfl) ?_ ?_
        · intro w' hC; clear hC; first | (go_simp; done)
        simp only [Act.put, List.setIfInBounds_toArray, List.set_cons_zero, List.set_cons_succ]
        refine f_val (.pointer (some ⟨g2, j * 9, none⟩)) (by rfl) ?_ ?_
        · intro w' hC; clear hC; first | (go_simp; done)
        simp only [Act.put, List.setIfInBounds_toArray, List.set_cons_zero, List.set_cons_succ]
        refine f_val (.pointer (some ⟨g2, j * 9 + 1, none⟩)) (by rfl) ?_ ?_
        · intro w' hC; clear hC; first | (go_simp; done)
        simp only [Act.put, List.setIfInBounds_toArray, List.set_cons_zero, List.set_cons_succ]
        refine f_val (.int .i64 (y1 : Nat)) (by rfl) ?_ ?_
        · intro w' hC; obtain ⟨z0, z1, z2, z3, z4, z5, z6, z7, z8⟩ := HC2.out w' hC; clear hC; first | (go_simp; done)
        simp only [Act.put, List.setIfInBounds_toArray, List.set_cons_zero, List.set_cons_succ]
        refine f_val (.bool true) (by rfl) ?_ ?_
        · intro w' hC; clear hC; first | (go_simp; done)
        simp only [Act.put, List.setIfInBounds_toArray, List.set_cons_zero, List.set_cons_succ]
        refine f_val (.bool true) (by rfl) ?_ ?_
        · intro w' hC; clear hC; first | (go_simp; done)
        simp only [Act.put, List.setIfInBounds_toArray, List.set_cons_zero, List.set_cons_succ]
        refine f_val (.bool true) (by rfl) ?_ ?_
        · intro w' hC; clear hC; first | (go_simp; done)
        simp only [Act.put, List.setIfInBounds_toArray, List.set_cons_zero, List.set_cons_succ]
        refine f_skip (by rfl) ?_
        simp only [Act.put, List.setIfInBounds_toArray, List.set_cons_zero, List.set_cons_succ]
        refine f_skip (by rfl) ?_
        simp only [Act.put, List.setIfInBounds_toArray, List.set_cons_zero, List.set_cons_succ]
        refine f_skip (by rfl) ?_
        simp only [Act.put, List.setIfInBounds_toArray, List.set_cons_zero, List.set_cons_succ]
        refine f_skip (by rfl) ?_
        simp only [Act.put, List.setIfInBounds_toArray, List.set_cons_zero, List.set_cons_succ]
        refine f_skip (by rfl) ?_
        simp only [Act.put, List.setIfInBounds_toArray, List.set_cons_zero, List.set_cons_succ]
        refine f_skip (by rfl) ?_
        simp only [Act.put, List.setIfInBounds_toArray, List.set_cons_zero, List.set_cons_succ]
        refine f_skip (by rfl) ?_
        simp only [Act.put, List.setIfInBounds_toArray, List.set_cons_zero, List.set_cons_succ]
        refine f_skip (by rfl) ?_
        simp only [Act.put, List.setIfInBounds_toArray, List.set_cons_zero, List.set_cons_succ]
        refine f_skip (by rfl) ?_
        simp only [Act.put, List.setIfInBounds_toArray, List.set_cons_zero, List.set_cons_succ]
        refine f_skip (by rfl) ?_
        simp only [Act.put, List.setIfInBounds_toArray, List.set_cons_zero, List.set_cons_succ]
        refine f_skip (by rfl) ?_
        simp only [Act.put, List.setIfInBounds_toArray, List.set_cons_zero, List.set_cons_succ]
        refine f_skip (by rfl) ?_
        simp only [Act.put, List.setIfInBounds_toArray, List.set_cons_zero, List.set_cons_succ]
        refine f_val (.bool true) (by rfl) ?_ ?_
        · intro w' hC; clear hC; first | (go_simp; done)
        simp only [Act.put, List.setIfInBounds_toArray, List.set_cons_zero, List.set_cons_succ]
        refine wpF_end ?_
        intro w5 hC hks
        have HCw5 := Lib.hid hC
        clear hC hks
        go_wp2_with (fail)
        go_ret
        rw [HBF.out]
        exact ⟨rfl, Grows.trans HG.out HCw5.out⟩
      subst hx1
      by_cases hr : r1' = r2'
      · rw [decide_eq_true hr] at HSA
        have HT1 := Lib.hid (fns_take HT.out HPQ.out.1 HPQ.out.2 (by rw [hr]))
        clear hr
        go_wp2_with (fail)
        refine wp_region_facts (E := Grows) [valFact (.slice (some ⟨g1, 0, none⟩) n c1), valFact (.int .i64 (j : Int)), valFact (.pointer (some ⟨g1, j * 9, none⟩)), valFact (.pointer (some ⟨g1, j * 9, none⟩)), valFact (.int .i64 (x0 : Nat)), valFact (.slice (some ⟨g2, 0, none⟩) n c2), valFact (.int .i64 (j : Int)), valFact (.pointer (some ⟨g2, j * 9, none⟩)), valFact (.pointer (some ⟨g2, j * 9, none⟩)), valFact (.int .i64 (x0 : Nat)), valFact (.bool false), valFact (.bool false), valFact (.slice (some ⟨g1, 0, none⟩) n c1), valFact (.int .i64 (j : Int)), valFact (.pointer (some ⟨g1, j * 9, none⟩)), valFact (.pointer (some ⟨g1, j * 9 + 1, none⟩)), valFact (.int .i64 (x1 : Nat)), valFact (.slice (some ⟨g2, 0, none⟩) n c2), valFact (.int .i64 (j : Int)), valFact (.pointer (some ⟨g2, j * 9, none⟩)), valFact (.pointer (some ⟨g2, j * 9 + 1, none⟩)), valFact (.int .i64 (x1 : Nat)), valFact (.bool false), valFact (.bool false), valFact (.bool false), valFact (.slice (some ⟨g1, 0, none⟩) n c1), valFact (.int .i64 (j : Int)), valFact (.pointer (some ⟨g1, j * 9, none⟩)), valFact (.pointer (some ⟨g1, j * 9 + 2, none⟩)), valFact (.agg #[.int .i64 r1'.kind, .string ⟨r1'.key.toArray⟩, .int .i64 r1'.id, .int .i64 r1'.no, .int .i64 r1'.size, .slice L1 a1 b1, .slice B1 d1 e1]), valFact (.slice (some ⟨g2, 0, none⟩) n c2), valFact (.int .i64 (j : Int)), valFact (.pointer (some ⟨g2, j * 9, none⟩)), valFact (.pointer (some ⟨g2, j * 9 + 2, none⟩)), valFact (.agg #[.int .i64 r2'.kind, .string ⟨r2'.key.toArray⟩, .int .i64 r2'.id, .int .i64 r2'.no, .int .i64 r2'.size, .slice L2 a2 b2, .slice B2 d2 e2]), valFact (.bool true), valFact (.bool false), valFact (.bool false)] (by kernel_rfl) (by kernel_rfl) (fun _ _ _ => Grows.trans) (grows_drew _) ?_
        refine f_val (.slice (some ⟨g1, 0, none⟩) n c1) (by rfl) ?_ ?_
        · intro w' hC; clear hC; first | (go_simp; done)
        simp only [Act.put, List.setIfInBounds_toArray, List.set_cons_zero, List.set_cons_succ]
        refine f_val (.int .i64 (j : Int)) (by rfl) ?_ ?_
        · intro w' hC; clear hC; first | (go_simp; done)
        simp only [Act.put, List.setIfInBounds_toArray, List.set_cons_zero, List.set_cons_succ]
        refine f_val (.pointer (some ⟨g1, j * 9, none⟩)) (by rfl) ?_ ?_
        · intro w' hC; clear hC; first | (go_simp; done)
        simp only [Act.put, List.setIfInBounds_toArray, List.set_cons_zero, List.set_cons_succ]
        refine f_val (.pointer (some ⟨g1, j * 9, none⟩)) (by rfl) ?_ ?_
        · intro w' hC; clear hC; first | (go_simp; done)
        simp only [Act.put, List.setIfInBounds_toArray, List.set_cons_zero, List.set_cons_succ]
        refine f_val (.int .i64 (x0 : Nat)) (by rfl) ?_ ?_
        · intro w' hC; obtain ⟨z0, z1, z2, z3, z4, z5, z6, z7, z8⟩ := HC1.out w' hC; clear hC; first | (go_simp; done)
        simp only [Act.put, List.setIfInBounds_toArray, List.set_cons_zero, List.set_cons_succ]
        refine f_val (.slice (some ⟨g2, 0, none⟩) n c2) (by rfl) ?_ ?_
        · intro w' hC; clear hC; first | (go_simp; done)
        simp only [Act.put, List.setIfInBounds_toArray, List.set_cons_zero, List.set_cons_succ]
        refine f_val (.int .i64 (j : Int)) (by rfl) ?_ ?_
        · intro w' hC; clear hC; first | (go_simp; done)
        simp only [Act.put, List.setIfInBounds_toArray, List.set_cons_zero, List.set_cons_succ]
        refine f_val (.pointer (some ⟨g2, j * 9, none⟩)) (by rfl) ?_ ?_
        · intro w' hC; clear hC; first | (go_simp; done)
        simp only [Act.put, List.setIfInBounds_toArray, List.set_cons_zero, List.set_cons_succ]
        refine f_val (.pointer (some ⟨g2, j * 9, none⟩)) (by rfl) ?_ ?_
        · intro w' hC; clear hC; first | (go_simp; done)
        simp only [Act.put, List.setIfInBounds_toArray, List.set_cons_zero, List.set_cons_succ]
        refine f_val (.int .i64 (x0 : Nat)) (by rfl) ?_ ?_
        · intro w' hC; obtain ⟨z0, z1, z2, z3, z4, z5, z6, z7, z8⟩ := HC2.out w' hC; clear hC; first | (go_simp; done)
        simp only [Act.put, List.setIfInBounds_toArray, List.set_cons_zero, List.set_cons_succ]
        refine f_val (.bool false) (by rfl) ?_ ?_
        · intro w' hC; clear hC; first | (go_simp; done)
        simp only [Act.put, List.setIfInBounds_toArray, List.set_cons_zero, List.set_cons_succ]
        refine f_val (.bool false) (by rfl) ?_ ?_
        · intro w' hC; clear hC; first | (go_simp; done)
        simp only [Act.put, List.setIfInBounds_toArray, List.set_cons_zero, List.set_cons_succ]
        refine f_val (.slice (some ⟨g1, 0, none⟩) n c1) (by rfl) ?_ ?_
        · intro w' hC; clear hC; first | (go_simp; done)
        simp only [Act.put, List.setIfInBounds_toArray, List.set_cons_zero, List.set_cons_succ]
        refine f_val (.int .i64 (j : Int)) (by rfl) ?_ ?_
        · intro w' hC; clear hC; first | (go_simp; done)
        simp only [Act.put, List.setIfInBounds_toArray, List.set_cons_zero, List.set_cons_succ]
        refine f_val (.pointer (some ⟨g1, j * 9, none⟩)) (by rfl) ?_ ?_
        · intro w' hC; clear hC; first | (go_simp; done)
        simp only [Act.put, List.setIfInBounds_toArray, List.set_cons_zero, List.set_cons_succ]
        refine f_val (.pointer (some ⟨g1, j * 9 + 1, none⟩)) (by rfl) ?_ ?_
        · intro w' hC; clear hC; first | (go_simp; done)
        simp only [Act.put, List.setIfInBounds_toArray, List.set_cons_zero, List.set_cons_succ]
        refine f_val (.int .i64 (x1 : Nat)) (by rfl) ?_ ?_
        · intro w' hC; obtain ⟨z0, z1, z2, z3, z4, z5, z6, z7, z8⟩ := HC1.out w' hC; clear hC; first | (go_simp; done)
        simp only [Act.put, List.setIfInBounds_toArray, List.set_cons_zero, List.set_cons_succ]
        refine f_val (.slice (some ⟨g2, 0, none⟩) n c2) (by rfl) ?_ ?_
        · intro w' hC; clear hC; first | (go_simp; done)
        simp only [Act.put, List.setIfInBounds_toArray, List.set_cons_zero, List.set_cons_succ]
        refine f_val (.int .i64 (j : Int)) (by rfl) ?_ ?_
        · intro w' hC; clear hC; first | (go_simp; done)
        simp only [Act.put, List.setIfInBounds_toArray, List.set_cons_zero, List.set_cons_succ]
        refine f_val (.pointer (some ⟨g2, j * 9, none⟩)) (by rfl) ?_ ?_
        · intro w' hC; clear hC; first | (go_simp; done)
        simp only [Act.put, List.setIfInBounds_toArray, List.set_cons_zero, List.set_cons_succ]
        refine f_val (.pointer (some ⟨g2, j * 9 + 1, none⟩)) (by rfl) ?_ ?_
        · intro w' hC; clear hC; first | (go_simp; done)
        simp only [Act.put, List.setIfInBounds_toArray, List.set_cons_zero, List.set_cons_succ]
        refine f_val (.int .i64 (x1 : Nat)) (by rfl) ?_ ?_
        · intro w' hC; obtain ⟨z0, z1, z2, z3, z4, z5, z6, z7, z8⟩ := HC2.out w' hC; clear hC; first | (go_simp; done)
        simp only [Act.put, List.setIfInBounds_toArray, List.set_cons_zero, List.set_cons_succ]
        refine f_val (.bool false) (by rfl) ?_ ?_
        · intro w' hC; clear hC; first | (go_simp; done)
        simp only [Act.put, List.setIfInBounds_toArray, List.set_cons_zero, List.set_cons_succ]
        refine f_val (.bool false) (by rfl) ?_ ?_
        · intro w' hC; clear hC; first | (go_simp; done)
        simp only [Act.put, List.setIfInBounds_toArray, List.set_cons_zero, List.set_cons_succ]
        refine f_val (.bool false) (by rfl) ?_ ?_
        · intro w' hC; clear hC; first | (go_simp; done)
        simp only [Act.put, List.setIfInBounds_toArray, List.set_cons_zero, List.set_cons_succ]
        refine f_val (.slice (some ⟨g1, 0, none⟩) n c1) (by rfl) ?_ ?_
        · intro w' hC; clear hC; first | (go_simp; done)
        simp only [Act.put, List.setIfInBounds_toArray, List.set_cons_zero, List.set_cons_succ]
        refine f_val (.int .i64 (j : Int)) (by rfl) ?_ ?_
        · intro w' hC; clear hC; first | (go_simp; done)
        simp only [Act.put, List.setIfInBounds_toArray, List.set_cons_zero, List.set_cons_succ]
        refine f_val (.pointer (some ⟨g1, j * 9, none⟩)) (by rfl) ?_ ?_
        · intro w' hC; clear hC; first | (go_simp; done)
        simp only [Act.put, List.setIfInBounds_toArray, List.set_cons_zero, List.set_cons_succ]
        refine f_val (.pointer (some ⟨g1, j * 9 + 2, none⟩)) (by rfl) ?_ ?_
        · intro w' hC; clear hC; first | (go_simp; done)
        simp only [Act.put, List.setIfInBounds_toArray, List.set_cons_zero, List.set_cons_succ]
        refine f_val (.agg #[.int .i64 r1'.kind, .string ⟨r1'.key.toArray⟩, .int .i64 r1'.id, .int .i64 r1'.no, .int .i64 r1'.size, .slice L1 a1 b1, .slice B1 d1 e1]) (by rfl) ?_ ?_
        · intro w' hC; obtain ⟨z0, z1, z2, z3, z4, z5, z6, z7, z8⟩ := HC1.out w' hC; clear hC; first | (go_simp; done)
        simp only [Act.put, List.setIfInBounds_toArray, List.set_cons_zero, List.set_cons_succ]
        refine f_val (.slice (some ⟨g2, 0, none⟩) n c2) (by rfl) ?_ ?_
        · intro w' hC; clear hC; first | (go_simp; done)
        simp only [Act.put, List.setIfInBounds_toArray, List.set_cons_zero, List.set_cons_succ]
        refine f_val (.int .i64 (j : Int)) (by rfl) ?_ ?_
        · intro w' hC; clear hC; first | (go_simp; done)
        simp only [Act.put, List.setIfInBounds_toArray, List.set_cons_zero, List.set_cons_succ]
        refine f_val (.pointer (some ⟨g2, j * 9, none⟩)) (by rfl) ?_ ?_
        · intro w' hC; clear hC; first | (go_simp; done)
        simp only [Act.put, List.setIfInBounds_toArray, List.set_cons_zero, List.set_cons_succ]
        refine f_val (.pointer (some ⟨g2, j * 9 + 2, none⟩)) (by rfl) ?_ ?_
        · intro w' hC; clear hC; first | (go_simp; done)
        simp only [Act.put, List.setIfInBounds_toArray, List.set_cons_zero, List.set_cons_succ]
        refine f_val (.agg #[.int .i64 r2'.kind, .string ⟨r2'.key.toArray⟩, .int .i64 r2'.id, .int .i64 r2'.no, .int .i64 r2'.size, .slice L2 a2 b2, .slice B2 d2 e2]) (by rfl) ?_ ?_
        · intro w' hC; obtain ⟨z0, z1, z2, z3, z4, z5, z6, z7, z8⟩ := HC2.out w' hC; clear hC; first | (go_simp; done)
        simp only [Act.put, List.setIfInBounds_toArray, List.set_cons_zero, List.set_cons_succ]
        refine f_call 33 #[.agg #[.int .i64 r1'.kind, .string ⟨r1'.key.toArray⟩, .int .i64 r1'.id, .int .i64 r1'.no, .int .i64 r1'.size, .slice L1 a1 b1, .slice B1 d1 e1], .agg #[.int .i64 r2'.kind, .string ⟨r2'.key.toArray⟩, .int .i64 r2'.id, .int .i64 r2'.no, .int .i64 r2'.size, .slice L2 a2 b2, .slice B2 d2 e2]] (.bool true) (by rfl) (by intro w' hC; clear hC; go_simp) ?_ ?_
        · intro w' hC hks; exact (HSA.out w' hC).mono fun e w'' hh => ⟨hh.1, hh.2⟩
        simp only [Act.put, List.setIfInBounds_toArray, List.set_cons_zero, List.set_cons_succ]
        refine f_val (.bool false) (by rfl) ?_ ?_
        · intro w' hC; clear hC; first | (go_simp; done)
        simp only [Act.put, List.setIfInBounds_toArray, List.set_cons_zero, List.set_cons_succ]
        refine f_val (.bool false) (by rfl) ?_ ?_
        · intro w' hC; clear hC; first | (go_simp; done)
        simp only [Act.put, List.setIfInBounds_toArray, List.set_cons_zero, List.set_cons_succ]
        refine wpF_end ?_
        intro w5 hC hks
        have HCw5 := Lib.hid hC
        clear hC hks
        go_wp2_with (fail)
        exact ⟨⟨j + 1, HLT.out, rfl, HT1, Lib.hid (Grows.trans HG.out HCw5.out)⟩, by simp only [intOf]; have := HLT.out; omega⟩
      · rw [decide_eq_false hr] at HSA
        have HBF := Lib.hid (show b = false by rw [← HBB.out]; exact decide_eq_false (fns_not HPQ.out.1 HPQ.out.2 fun e => hr (by injection e with _ e; injection e)))
        clear hr
        go_wp2_with (fail)
        refine wp_region_facts (E := Grows) [valFact (.slice (some ⟨g1, 0, none⟩) n c1), valFact (.int .i64 (j : Int)), valFact (.pointer (some ⟨g1, j * 9, none⟩)), valFact (.pointer (some ⟨g1, j * 9, none⟩)), valFact (.int .i64 (x0 : Nat)), valFact (.slice (some ⟨g2, 0, none⟩) n c2), valFact (.int .i64 (j : Int)), valFact (.pointer (some ⟨g2, j * 9, none⟩)), valFact (.pointer (some ⟨g2, j * 9, none⟩)), valFact (.int .i64 (x0 : Nat)), valFact (.bool false), valFact (.bool false), valFact (.slice (some ⟨g1, 0, none⟩) n c1), valFact (.int .i64 (j : Int)), valFact (.pointer (some ⟨g1, j * 9, none⟩)), valFact (.pointer (some ⟨g1, j * 9 + 1, none⟩)), valFact (.int .i64 (x1 : Nat)), valFact (.slice (some ⟨g2, 0, none⟩) n c2), valFact (.int .i64 (j : Int)), valFact (.pointer (some ⟨g2, j * 9, none⟩)), valFact (.pointer (some ⟨g2, j * 9 + 1, none⟩)), valFact (.int .i64 (x1 : Nat)), valFact (.bool false), valFact (.bool false), valFact (.bool false), valFact (.slice (some ⟨g1, 0, none⟩) n c1), valFact (.int .i64 (j : Int)), valFact (.pointer (some ⟨g1, j * 9, none⟩)), valFact (.pointer (some ⟨g1, j * 9 + 2, none⟩)), valFact (.agg #[.int .i64 r1'.kind, .string ⟨r1'.key.toArray⟩, .int .i64 r1'.id, .int .i64 r1'.no, .int .i64 r1'.size, .slice L1 a1 b1, .slice B1 d1 e1]), valFact (.slice (some ⟨g2, 0, none⟩) n c2), valFact (.int .i64 (j : Int)), valFact (.pointer (some ⟨g2, j * 9, none⟩)), valFact (.pointer (some ⟨g2, j * 9 + 2, none⟩)), valFact (.agg #[.int .i64 r2'.kind, .string ⟨r2'.key.toArray⟩, .int .i64 r2'.id, .int .i64 r2'.no, .int .i64 r2'.size, .slice L2 a2 b2, .slice B2 d2 e2]), valFact (.bool false), valFact (.bool true), valFact (.bool true)] (by kernel_rfl) (by kernel_rfl) (fun _ _ _ => Grows.trans) (grows_drew _) ?_
        refine f_val (.slice (some ⟨g1, 0, none⟩) n c1) (by rfl) ?_ ?_
        · intro w' hC; clear hC; first | (go_simp; done)
        simp only [Act.put, List.setIfInBounds_toArray, List.set_cons_zero, List.set_cons_succ]
        refine f_val (.int .i64 (j : Int)) (by rfl) ?_ ?_
        · intro w' hC; clear hC; first | (go_simp; done)
        simp only [Act.put, List.setIfInBounds_toArray, List.set_cons_zero, List.set_cons_succ]
        refine f_val (.pointer (some ⟨g1, j * 9, none⟩)) (by rfl) ?_ ?_
        · intro w' hC; clear hC; first | (go_simp; done)
        simp only [Act.put, List.setIfInBounds_toArray, List.set_cons_zero, List.set_cons_succ]
        refine f_val (.pointer (some ⟨g1, j * 9, none⟩)) (by rfl) ?_ ?_
        · intro w' hC; clear hC; first | (go_simp; done)
        simp only [Act.put, List.setIfInBounds_toArray, List.set_cons_zero, List.set_cons_succ]
        refine f_val (.int .i64 (x0 : Nat)) (by rfl) ?_ ?_
        · intro w' hC; obtain ⟨z0, z1, z2, z3, z4, z5, z6, z7, z8⟩ := HC1.out w' hC; clear hC; first | (go_simp; done)
        simp only [Act.put, List.setIfInBounds_toArray, List.set_cons_zero, List.set_cons_succ]
        refine f_val (.slice (some ⟨g2, 0, none⟩) n c2) (by rfl) ?_ ?_
        · intro w' hC; clear hC; first | (go_simp; done)
        simp only [Act.put, List.setIfInBounds_toArray, List.set_cons_zero, List.set_cons_succ]
        refine f_val (.int .i64 (j : Int)) (by rfl) ?_ ?_
        · intro w' hC; clear hC; first | (go_simp; done)
        simp only [Act.put, List.setIfInBounds_toArray, List.set_cons_zero, List.set_cons_succ]
        refine f_val (.pointer (some ⟨g2, j * 9, none⟩)) (by rfl) ?_ ?_
        · intro w' hC; clear hC; first | (go_simp; done)
        simp only [Act.put, List.setIfInBounds_toArray, List.set_cons_zero, List.set_cons_succ]
        refine f_val (.pointer (some ⟨g2, j * 9, none⟩)) (by rfl) ?_ ?_
        · intro w' hC; clear hC; first | (go_simp; done)
        simp only [Act.put, List.setIfInBounds_toArray, List.set_cons_zero, List.set_cons_succ]
        refine f_val (.int .i64 (x0 : Nat)) (by rfl) ?_ ?_
        · intro w' hC; obtain ⟨z0, z1, z2, z3, z4, z5, z6, z7, z8⟩ := HC2.out w' hC; clear hC; first | (go_simp; done)
        simp only [Act.put, List.setIfInBounds_toArray, List.set_cons_zero, List.set_cons_succ]
        refine f_val (.bool false) (by rfl) ?_ ?_
        · intro w' hC; clear hC; first | (go_simp; done)
        simp only [Act.put, List.setIfInBounds_toArray, List.set_cons_zero, List.set_cons_succ]
        refine f_val (.bool false) (by rfl) ?_ ?_
        · intro w' hC; clear hC; first | (go_simp; done)
        simp only [Act.put, List.setIfInBounds_toArray, List.set_cons_zero, List.set_cons_succ]
        refine f_val (.slice (some ⟨g1, 0, none⟩) n c1) (by rfl) ?_ ?_
        · intro w' hC; clear hC; first | (go_simp; done)
        simp only [Act.put, List.setIfInBounds_toArray, List.set_cons_zero, List.set_cons_succ]
        refine f_val (.int .i64 (j : Int)) (by rfl) ?_ ?_
        · intro w' hC; clear hC; first | (go_simp; done)
        simp only [Act.put, List.setIfInBounds_toArray, List.set_cons_zero, List.set_cons_succ]
        refine f_val (.pointer (some ⟨g1, j * 9, none⟩)) (by rfl) ?_ ?_
        · intro w' hC; clear hC; first | (go_simp; done)
        simp only [Act.put, List.setIfInBounds_toArray, List.set_cons_zero, List.set_cons_succ]
        refine f_val (.pointer (some ⟨g1, j * 9 + 1, none⟩)) (by rfl) ?_ ?_
        · intro w' hC; clear hC; first | (go_simp; done)
        simp only [Act.put, List.setIfInBounds_toArray, List.set_cons_zero, List.set_cons_succ]
        refine f_val (.int .i64 (x1 : Nat)) (by rfl) ?_ ?_
        · intro w' hC; obtain ⟨z0, z1, z2, z3, z4, z5, z6, z7, z8⟩ := HC1.out w' hC; clear hC; first | (go_simp; done)
        simp only [Act.put, List.setIfInBounds_toArray, List.set_cons_zero, List.set_cons_succ]
        refine f_val (.slice (some ⟨g2, 0, none⟩) n c2) (by rfl) ?_ ?_
        · intro w' hC; clear hC; first | (go_simp; done)
        simp only [Act.put, List.setIfInBounds_toArray, List.set_cons_zero, List.set_cons_succ]
        refine f_val (.int .i64 (j : Int)) (by rfl) ?_ ?_
        · intro w' hC; clear hC; first | (go_simp; done)
        simp only [Act.put, List.setIfInBounds_toArray, List.set_cons_zero, List.set_cons_succ]
        refine f_val (.pointer (some ⟨g2, j * 9, none⟩)) (by rfl) ?_ ?_
        · intro w' hC; clear hC; first | (go_simp; done)
        simp only [Act.put, List.setIfInBounds_toArray, List.set_cons_zero, List.set_cons_succ]
        refine f_val (.pointer (some ⟨g2, j * 9 + 1, none⟩)) (by rfl) ?_ ?_
        · intro w' hC; clear hC; first | (go_simp; done)
        simp only [Act.put, List.setIfInBounds_toArray, List.set_cons_zero, List.set_cons_succ]
        refine f_val (.int .i64 (x1 : Nat)) (by rfl) ?_ ?_
        · intro w' hC; obtain ⟨z0, z1, z2, z3, z4, z5, z6, z7, z8⟩ := HC2.out w' hC; clear hC; first | (go_simp; done)
        simp only [Act.put, List.setIfInBounds_toArray, List.set_cons_zero, List.set_cons_succ]
        refine f_val (.bool false) (by rfl) ?_ ?_
        · intro w' hC; clear hC; first | (go_simp; done)
        simp only [Act.put, List.setIfInBounds_toArray, List.set_cons_zero, List.set_cons_succ]
        refine f_val (.bool false) (by rfl) ?_ ?_
        · intro w' hC; clear hC; first | (go_simp; done)
        simp only [Act.put, List.setIfInBounds_toArray, List.set_cons_zero, List.set_cons_succ]
        refine f_val (.bool false) (by rfl) ?_ ?_
        · intro w' hC; clear hC; first | (go_simp; done)
        simp only [Act.put, List.setIfInBounds_toArray, List.set_cons_zero, List.set_cons_succ]
        refine f_val (.slice (some ⟨g1, 0, none⟩) n c1) (by rfl) ?_ ?_
        · intro w' hC; clear hC; first | (go_simp; done)
        simp only [Act.put, List.setIfInBounds_toArray, List.set_cons_zero, List.set_cons_succ]
        refine f_val (.int .i64 (j : Int)) (by rfl) ?_ ?_
        · intro w' hC; clear hC; first | (go_simp; done)
        simp only [Act.put, List.setIfInBounds_toArray, List.set_cons_zero, List.set_cons_succ]
        refine f_val (.pointer (some ⟨g1, j * 9, none⟩)) (by rfl) ?_ ?_
        · intro w' hC; clear hC; first | (go_simp; done)
        simp only [Act.put, List.setIfInBounds_toArray, List.set_cons_zero, List.set_cons_succ]
        refine f_val (.pointer (some ⟨g1, j * 9 + 2, none⟩)) (by rfl) ?_ ?_
        · intro w' hC; clear hC; first | (go_simp; done)
        simp only [Act.put, List.setIfInBounds_toArray, List.set_cons_zero, List.set_cons_succ]
        refine f_val (.agg #[.int .i64 r1'.kind, .string ⟨r1'.key.toArray⟩, .int .i64 r1'.id, .int .i64 r1'.no, .int .i64 r1'.size, .slice L1 a1 b1, .slice B1 d1 e1]) (by rfl) ?_ ?_
        · intro w' hC; obtain ⟨z0, z1, z2, z3, z4, z5, z6, z7, z8⟩ := HC1.out w' hC; clear hC; first | (go_simp; done)
        simp only [Act.put, List.setIfInBounds_toArray, List.set_cons_zero, List.set_cons_succ]
        refine f_val (.slice (some ⟨g2, 0, none⟩) n c2) (by rfl) ?_ ?_
        · intro w' hC; clear hC; first | (go_simp; done)
        simp only [Act.put, List.setIfInBounds_toArray, List.set_cons_zero, List.set_cons_succ]
        refine f_val (.int .i64 (j : Int)) (by rfl) ?_ ?_
        · intro w' hC; clear hC; first | (go_simp; done)
        simp only [Act.put, List.setIfInBounds_toArray, List.set_cons_zero, List.set_cons_succ]
        refine f_val (.pointer (some ⟨g2, j * 9, none⟩)) (by rfl) ?_ ?_
        · intro w' hC; clear hC; first | (go_simp; done)
        simp only [Act.put, List.setIfInBounds_toArray, List.set_cons_zero, List.set_cons_succ]
        refine f_val (.pointer (some ⟨g2, j * 9 + 2, none⟩)) (by rfl) ?_ ?_
        · intro w' hC; clear hC; first | (go_simp; done)
        simp only [Act.put, List.setIfInBounds_toArray, List.set_cons_zero, List.set_cons_succ]
        refine f_val (.agg #[.int .i64 r2'.kind, .string ⟨r2'.key.toArray⟩, .int .i64 r2'.id, .int .i64 r2'.no, .int .i64 r2'.size, .slice L2 a2 b2, .slice B2 d2 e2]) (by rfl) ?_ ?_
        · intro w' hC; obtain ⟨z0, z1, z2, z3, z4, z5, z6, z7, z8⟩ := HC2.out w' hC; clear hC; first | (go_simp; done)
        simp only [Act.put, List.setIfInBounds_toArray, List.set_cons_zero, List.set_cons_succ]
        refine f_call 33 #[.agg #[.int .i64 r1'.kind, .string ⟨r1'.key.toArray⟩, .int .i64 r1'.id, .int .i64 r1'.no, .int .i64 r1'.size, .slice L1 a1 b1, .slice B1 d1 e1], .agg #[.int .i64 r2'.kind, .string ⟨r2'.key.toArray⟩, .int .i64 r2'.id, .int .i64 r2'.no, .int .i64 r2'.size, .slice L2 a2 b2, .slice B2 d2 e2]] (.bool false) (by rfl) (by intro w' hC; clear hC; go_simp) ?_ ?_
        · intro w' hC hks; exact (HSA.out w' hC).mono fun e w'' hh => ⟨hh.1, hh.2⟩
        simp only [Act.put, List.setIfInBounds_toArray, List.set_cons_zero, List.set_cons_succ]
        refine f_val (.bool true) (by rfl) ?_ ?_
        · intro w' hC; clear hC; first | (go_simp; done)
        simp only [Act.put, List.setIfInBounds_toArray, List.set_cons_zero, List.set_cons_succ]
        refine f_val (.bool true) (by rfl) ?_ ?_
        · intro w' hC; clear hC; first | (go_simp; done)
        simp only [Act.put, List.setIfInBounds_toArray, List.set_cons_zero, List.set_cons_succ]
        refine wpF_end ?_
        intro w5 hC hks
        have HCw5 := Lib.hid hC
        clear hC hks
        go_wp2_with (fail)
        go_ret
        rw [HBF.out]
        exact ⟨rfl, Grows.trans HG.out HCw5.out⟩
    · obtain rfl : j = n := by omega
      have HBT := Lib.hid (show b = true by
        rw [← HBB.out]
        refine decide_eq_true ?_
        have h := HT.out
        rw [List.take_of_length_le (by rw [H1.out.2.1]; exact Nat.le_refl _), List.take_of_length_le (by rw [H2.out.2]; exact Nat.le_refl _)] at h
        exact h)
      go_wp2_with (fail)
      go_ret
      rw [HBT.out]
      exact ⟨rfl, HG.out⟩
end Go.Proofs.Ytdkpbphgaenlnaa

/-
  A row of what was found, of a law's own, beside a disk: it stays while the disk is worked on, and grows by an append.
-/
namespace Go.Proofs.Ytdkpbphgaenlnaa
open Go.RowKit
set_option linter.unusedVariables false
set_option linter.unusedSimpArgs false

section
variable {B d : Nat} {w0 w w' : World} {out : Nat → Prop} {m : Dk}
theorem DkIn.grown (h : DkIn B w0 w d out m) {row : Option Nat} (hg : w.grownBy w' row) (hr : ∀ g, row = some g → out g) (hB : ∀ g, row = some g → B ≤ g) : DkIn B w0 w' d (fun k => out k ∨ (w.heap.size ≤ k ∧ k < w'.heap.size)) m := by
  obtain ⟨own, G, h1, h2, h3, h4, h5, h6⟩ := h
  have hs : Spares (fun k => row = some k) w w' := (Spares.refl (fun k => row = some k) w).grown hg fun g e => e
  refine ⟨own, G, h1.spare hs fun k hk e => ?_, h2, h3, h4.trans (hs.below h5 fun k hk e => by have := hB k e; omega), Nat.le_trans h5 hs.size, ?_⟩
  · have := h6 k (hr k e)
    rcases hk with hk | hk
    · exact this.2.1 hk
    · exact this.2.2 hk
  · rintro k (hk | hk)
    · exact ⟨Nat.lt_of_lt_of_le (h6 k hk).1 hs.size, (h6 k hk).2⟩
    · exact ⟨hk.2, fun e => by have := h1.top.lt; omega, fun e => by have := h1.rest.lt k e; omega⟩
end
theorem fn_row (w : World) (p : Fn × Fh) : Row (w.alloc (.cells (fnE p).toArray 63)) (w.alloc (.cells (fnE p).toArray 63)).heap.size (some ⟨w.heap.size, 0, none⟩) 9 (fnE p) :=
  ⟨rfl, fun k v hv => ⟨⟨w.heap.size, 0, none⟩, rfl, (Whole.made w 63 (fnE p).toArray).lt, fnE_at (Whole.made w _ _) k v hv⟩⟩
/-- The row l, in memory of the law's own from block B on, in blocks out; its records lie where they lay in w0. -/
structure Want (B : Nat) (w0 w : World) (out : Nat → Prop) (A : Option Addr) (n c : Nat) (l : List (Fn × Fh)) : Prop where
  len : l.length = n
  own : w.ownsRow B 63 9 (.slice A n c) n (l.flatMap fnE)
  mine : ∀ g, (Value.slice A n c).ownBlock = some g → out g
  recs : ∀ p ∈ l, RcIn w0 p.2.1.1 p.2.1.2.1 p.2.1.2.2 p.2.2.1 p.2.2.2.1 p.2.2.2.2 p.1.2.2
section
variable {B : Nat} {w0 w w' : World} {out out' : Nat → Prop} {A : Option Addr} {n c : Nat} {l : List (Fn × Fh)}
theorem Want.nil (B : Nat) (w0 w : World) (out : Nat → Prop) : Want B w0 w out none 0 0 [] := ⟨rfl, World.ownsRow_nil _ _ _ _, (fun g h => by cases h), fun p hp => by cases hp⟩
theorem Want.stays (h : Want B w0 w out A n c l) (hs : Stays B out w w') : Want B w0 w' out A n c l := ⟨h.len, row_same h.own fun k hk => hs.same k (h.own.lt k hk).2 fun e => e.2 (h.mine k hk), h.mine, h.recs⟩
theorem Want.grow (h : Want B w0 w out A n c l) (hg : Grows w w') : Want B w0 w' out A n c l := ⟨h.len, owned_grow h.own hg, h.mine, h.recs⟩
theorem Want.wider (h : Want B w0 w out A n c l) (ho : ∀ k, out k → out' k) : Want B w0 w out' A n c l := ⟨h.len, h.own, fun g e => ho g (h.mine g e), h.recs⟩
theorem Want.low (h : Want B w0 w out A n c l) : ∀ g, (Value.slice A n c).ownBlock = some g → B ≤ g := fun g e => (h.own.lt g e).1
theorem Want.fnds (h : Want B w0 w out A n c l) (hg : Grows w0 w) : Fnds w A n l := ⟨Rw.owned fnL h.len (owned_from h.own (Nat.zero_le _)), fun p hp => (h.recs p hp).grow hg⟩
/-- One more is appended. -/
theorem Want.snoc (h : Want B w0 w out A n c l) {A1 : Option Addr} {c1 : Nat} {p : Fn × Fh} {v : Nat} (hp : RcIn w0 p.2.1.1 p.2.1.2.1 p.2.1.2.2 p.2.2.1 p.2.2.2.1 p.2.2.2.2 p.1.2.2) (hown : w'.ownsRow B 63 9 (.slice A1 (n + 1) c1) (n + 1) (l.flatMap fnE ++ fnE p))
    (hat : (Value.slice A1 (n + 1) c1).ownBlock = (Value.slice A n c).ownBlock ∨ (Value.slice A1 (n + 1) c1).ownBlock = some v) (hv : v < w'.heap.size → out' v) (ho : ∀ k, out k → out' k) : Want B w0 w' out' A1 (n + 1) c1 (l ++ [p]) := by
  refine ⟨by rw [List.length_append, h.len]; rfl, ?_, fun g e => ?_, fun q hq => ?_⟩
  · rw [List.flatMap_append, List.flatMap_cons, List.flatMap_nil, List.append_nil]
    exact hown
  · rcases hat with hat | hat
    · exact ho g (h.mine g (hat ▸ e))
    · have e2 : v = g := by rw [hat] at e; exact Option.some.inj e
      subst e2
      exact hv (hown.lt _ hat).2
  · rcases List.mem_append.1 hq with hq | hq
    · exact h.recs q hq
    · rw [List.mem_singleton.1 hq]; exact hp
end
theorem less_oneS {k n : Nat} (h : k < n) : n - (intOf (Value.int IntKind.i64 ((k : Int) + 1))).toNat < n - (intOf (Value.int IntKind.i64 (k : Int))).toNat := by
  simp only [intOf]
  omega
theorem loc_small {r : Rc} (h : RightR r) : r.locs.length ≤ 1000000 := by
  rcases h with h | h | h | h
  · have := h.2; unfold PieceOk at this; simp_all
  · have h1 := put_len (r := r) (.inr (.inl h))
    rw [if_pos h.1] at h1
    have h2 := put_small r
    omega
  · have h1 : r.locs.length = 0 := h.2.1.2.2.2
    omega
  · have h1 : r.locs.length = 0 := h.2.1.2.2.2
    omega
theorem found_right : ∀ (rs : List Rc) (a : Nat), (∀ r ∈ rs, RightR r) → ∀ x ∈ foundL rs a, RightR x.2.2
  | [], _, _, x, hx => by cases hx
  | r :: rs, a, h, x, hx => by
    rcases List.mem_cons.1 hx with rfl | hx
    · exact h r (List.mem_cons_self ..)
    · exact found_right rs _ (fun y hy => h y (List.mem_cons_of_mem _ hy)) x hx
end Go.Proofs.Ytdkpbphgaenlnaa
