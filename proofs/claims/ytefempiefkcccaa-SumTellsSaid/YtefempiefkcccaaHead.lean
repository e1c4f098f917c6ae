/-
  The walk of souterrainlaw01.head: it is true, and writes nothing that was there. Its region is walked operation by operation (written by wip/gen/head.py).
-/
import Derived.Test.YtefempiefkcccaaOn
import Derived.Deep.RegionHeld3
import Derived.Deep.DrawnRows
namespace Go.Proofs.Ytefempiefkcccaa
open Go.RowKit
attribute [local go_sem ↓] Go.wp_at_zero Go.wp_at_succ
def word9 : List UInt8 := [49, 50, 51, 52, 53, 54, 55, 56, 57]
def word4 : List UInt8 := [49, 50, 51, 52]
def word5 : List UInt8 := [53, 54, 55, 56, 57]
theorem tab0 : tabN 0 = 0 := by decide +kernel
theorem tab1 : tabN 1 = 4067132163 := by decide +kernel
theorem tab255 : tabN 255 = 2910671697 := by decide +kernel
theorem on9 : onN tabN 0 word9 = 3808858755 := by decide +kernel
theorem on45 : onN tabN (onN tabN 0 word4) word5 = 3808858755 := by decide +kernel
theorem on0 : onN tabN 0 [] = 0 := by decide +kernel
theorem tabN_all : ∀ i, i < 256 → tabN i < 4294967296 := tabN_lt
theorem Whole.drew {w : World} {g t : Nat} {cs : Array Value} (h : Whole w g t cs) : Whole w.drew g t cs := h
theorem Whole.after {w w' : World} {g t : Nat} {cs : Array Value} (hb : Below w.heap.size w w') (h : Whole w g t cs) : Whole w' g t cs := h.below hb h.lt

/-- Block g has the cells cs; some of its places may not be written. -/
def Held (w : World) (g : Nat) (cs : Array Value) : Prop := ∃ t fr, w.heap[g]? = some (.cells cs t fr)
theorem Held.lt {w : World} {g : Nat} {cs : Array Value} (h : Held w g cs) : g < w.heap.size := by
  obtain ⟨t, fr, h⟩ := h
  exact (Array.getElem?_eq_some_iff.1 h).1
theorem Held.after {w w' : World} {g : Nat} {cs : Array Value} (hb : Below w.heap.size w w') (h : Held w g cs) : Held w' g cs := by
  have hl := h.lt
  obtain ⟨t, fr, h⟩ := h
  exact ⟨t, fr, by rw [hb.block g hl]; exact h⟩
theorem Held.after' {w w' : World} {g : Nat} {cs : Array Value} (h : Held w g cs) (hb : Below w.heap.size w w') : Held w' g cs := h.after hb
theorem Held.same {w w' : World} {g : Nat} {cs : Array Value} (h : Held w g cs) (e : w'.heap[g]? = w.heap[g]?) : Held w' g cs := by
  obtain ⟨t, fr, h⟩ := h
  exact ⟨t, fr, by rw [e]; exact h⟩
theorem Whole.after' {w w' : World} {g t : Nat} {cs : Array Value} (h : Whole w g t cs) (hb : Below w.heap.size w w') : Whole w' g t cs := h.below hb h.lt
theorem Whole.same {w w' : World} {g t : Nat} {cs : Array Value} (h : Whole w g t cs) (e : w'.heap[g]? = w.heap[g]?) : Whole w' g t cs := by
  unfold Whole
  rw [e]
  exact h
theorem Held.alloc {w : World} {g : Nat} {cs : Array Value} (h : Held w g cs) (o : Obj) : Held (w.alloc o) g cs :=
  h.after ((Below.refl _ _).alloc (Nat.le_refl _) o)
theorem Held.bytes {w : World} {g n : Nat} {cs : Array Value} (h : Held w g cs) (bs : List UInt8) (he : cs = (bs.map byteV).toArray) (hn : bs.length = n) : Bytes w w.heap.size (some ⟨g, 0, none⟩) n bs := by
  have hl := h.lt
  obtain ⟨t, fr, h⟩ := h
  refine ⟨by simp [hn], fun k v hv => ⟨⟨g, 0, none⟩, rfl, hl, ?_⟩⟩
  rw [show (⟨g, 0, none⟩ : Addr).add k = ⟨g, k, none⟩ by unfold Addr.add; split <;> simp_all, cell_of_row w g k cs t fr h, he]
  simpa using hv

/-- A literal's slice, turned to its own type: its block gets a mark behind its last cell; nothing else turns. -/
theorem conv_mark {w : World} {g n c : Nat} {cs : Array Value} (h : Whole w g 5 cs) :
    ∃ w', (convert 24 24 (.slice (some ⟨g, 0, none⟩) n c)).run Try.prog w = .ok (.slice (some ⟨g, 0, none⟩) n c) w' ∧ Held w' g cs ∧ Below g w w' ∧ ∀ k, k ≠ g → w'.heap[k]? = w.heap[k]? := by
  refine ⟨w.freeze ⟨g, cs.size, none⟩ 1, ?_, ⟨5, (cs.size, cs.size + 1), ?_⟩, ⟨rfl, rfl, rfl, ?_, fun k hk => ?_⟩, fun k hk => ?_⟩
  · have hsh : w.shape? g = some (5, cs.size) := by
      unfold World.shape?
      rw [h]
    simp [convert, run_underlying Try.underlying24, run_underlying Try.underlying5, markStringish, hsh]
  · simp only [World.freeze, Nat.one_ne_zero, if_false, Array.getElem?_modify]
    rw [h]
    rfl
  · simp [World.freeze]
  · simp only [World.freeze, Nat.one_ne_zero, if_false, Array.getElem?_modify]
    rw [if_neg (by omega)]
  · simp only [World.freeze, Nat.one_ne_zero, if_false, Array.getElem?_modify]
    rw [if_neg (fun e => hk e.symm)]

/-- A load of a whole array out of a block that is known whole may be taken first. -/
theorem take_whole {P : Program} {ops : Array Oper} {S : World → Prop} {op : Oper} {a : Act} (hw : Region.wanted op (yielded ops a.tmps) = true) (ty : TypeId) (x : Operand) (ho : op.op = .load ty x)
    (g : Nat) (hx : a.eval x = .pointer (some ⟨g, 0, none⟩)) (t : TypeId) (cs : Array Value) (d : TypeDesc) (hS : ∀ w, S w → Whole w g t cs)
    (hu : P.underlying ty = some d) (hd : (match d with | .struct _ | .array _ _ => true | _ => false) = true) (hi : (P.info? ty).map (·.size) = some cs.size) : YieldsIf P ops S op (.agg cs) a :=
  .inl ⟨hw, fun w hs => by
    unfold execOp
    simp only [ho, hx, Instr.loadAt, Instr.sureAddr, Sem.run_bind, Sem.run_pure, Result.andThen_ok, run_loadVar_row w g t ty cs (0, 0) d (hS w hs) hu hd hi]⟩

set_option maxRecDepth 100000 in
set_option maxHeartbeats 16000000 in
theorem head_any (w : World) :
    Calls Try.prog 9 #[] w fun e w' => e = .returned (.bool true) ∧ Below w.heap.size w w' := by
  have hz := zeroT
  go_enter Try.func9, Try.ntmps9
  go_wp2_with (fail)
  refine (table_any _).mono ?_
  rintro e w1 ⟨rfl, hb1⟩
  have hw1 := Whole.made w1 23 (arrV fun _ => 0)
  have Hw1 := Lib.hid hw1
  clear hw1
  go_wp2_with (refine wpList_store_row rfl 23 _ _ rfl w1.heap.size (arrV tabN) rfl rfl 23 _ Hw1.out (by rw [arrV_size]; exact sizeT) (by rw [arrV_size, arrV_size]) (arrV_one _) ?_)
  have hW : Whole ((w1.alloc (.cells (arrV fun _ => 0) 23)).setRow w1.heap.size (arrV tabN)).drew w1.heap.size 23 (arrV tabN) := setRow_heap _ _ _ _ _ _ Hw1.out
  have hB : Below w.heap.size w ((w1.alloc (.cells (arrV fun _ => 0) 23)).setRow w1.heap.size (arrV tabN)).drew := (below_setRow (hb1.alloc hb1.size _) hb1.size _).drew
  have hg : w.heap.size ≤ w1.heap.size := hb1.size
  clear Hw1 hb1
  refine wp_region_noPanic ?_
  refine wp_region_held_drew (S := fun w' => Whole w' w1.heap.size 23 (arrV tabN)) (by kernel_rfl) hW (fun hHeld => ?_)
  clear hHeld
  generalize ((w1.alloc (.cells (arrV fun _ => 0) 23)).setRow w1.heap.size (arrV tabN)).drew = W at *
  generalize w1.heap.size = g at *
  have hH0 := Lib.hid hW
  have hB0 := Lib.hid hB
  clear hW hB
  have e9 : ((onN tabN 0 word9 : Nat) : Int) = 3808858755 := by rw [on9]; rfl
  have e45 : ((onN tabN (onN tabN 0 word4) word5 : Nat) : Int) = 3808858755 := by rw [on45]; rfl
  have e0 : ((onN tabN 0 [] : Nat) : Int) = 0 := by rw [on0]; rfl
  refine wpAnyH_take (i := 0) (oi := { dst := some 3, op := Go.Op.indexAddr 23 (Go.Operand.tmp 1) (Go.Operand.const (Go.Value.int Go.IntKind.i64 0)), type := 0, pos := "law.go:12", after := #[], guard := none }) (v := .pointer (some ⟨g, 0, none⟩)) rfl (by kernel_rfl) (by kernel_rfl) (by kernel_rfl) (fun _ _ _ h => h) (Or.inl ⟨by rfl, ?_⟩) hH0.out ?_
  · intro w' hSw; clear hSw; go_simp
  try simp only [Act.put, List.setIfInBounds_toArray, List.set_cons_zero, List.set_cons_succ]
  refine wpAnyH_take (i := 1) (oi := { dst := some 4, op := Go.Op.load 22 (Go.Operand.tmp 3), type := 22, pos := "law.go:12", after := #[{ on := 0, ground := Go.Ground.data }], guard := none }) (v := .int .u32 0) rfl (by kernel_rfl) (by kernel_rfl) (by kernel_rfl) (fun _ _ _ h => h) (Or.inl ⟨by rfl, ?_⟩) hH0.out ?_
  · intro w' hSw; have c := (hSw : Whole w' g 23 (arrV tabN)).cell 0; rw [arrV_get _ _ (by omega), tab0] at c; clear hSw; go_simp
  try simp only [Act.put, List.setIfInBounds_toArray, List.set_cons_zero, List.set_cons_succ]
  refine wpAnyH_take (i := 2) (oi := { dst := some 5, op := Go.Op.binOp Go.BinOp.eql 22 (Go.Operand.tmp 4) (Go.Operand.const (Go.Value.int Go.IntKind.u32 0)) 22, type := 4, pos := "law.go:12", after := #[{ on := 1, ground := Go.Ground.data }], guard := none }) (v := .bool true) rfl (by kernel_rfl) (by kernel_rfl) (by kernel_rfl) (fun _ _ _ h => h) (Or.inl ⟨by rfl, ?_⟩) hH0.out ?_
  · intro w' hSw; clear hSw; go_simp
  try simp only [Act.put, List.setIfInBounds_toArray, List.set_cons_zero, List.set_cons_succ]
  refine wpAnyH_take (i := 3) (oi := { dst := some 6, op := Go.Op.move (Go.Operand.tmp 5), type := 4, pos := "law.go:12", after := #[{ on := 2, ground := Go.Ground.data }], guard := none }) (v := .bool true) rfl (by kernel_rfl) (by kernel_rfl) (by kernel_rfl) (fun _ _ _ h => h) (Or.inl ⟨by rfl, ?_⟩) hH0.out ?_
  · intro w' hSw; clear hSw; go_simp
  try simp only [Act.put, List.setIfInBounds_toArray, List.set_cons_zero, List.set_cons_succ]
  refine wpAnyH_take (i := 4) (oi := { dst := some 7, op := Go.Op.indexAddr 23 (Go.Operand.tmp 1) (Go.Operand.const (Go.Value.int Go.IntKind.i64 1)), type := 0, pos := "law.go:12", after := #[{ on := 3, ground := Go.Ground.guard }], guard := some (3, true) }) (v := .pointer (some ⟨g, 1, none⟩)) rfl (by kernel_rfl) (by kernel_rfl) (by kernel_rfl) (fun _ _ _ h => h) (Or.inl ⟨by rfl, ?_⟩) hH0.out ?_
  · intro w' hSw; clear hSw; go_simp
  try simp only [Act.put, List.setIfInBounds_toArray, List.set_cons_zero, List.set_cons_succ]
  refine wpAnyH_take (i := 5) (oi := { dst := some 8, op := Go.Op.load 22 (Go.Operand.tmp 7), type := 22, pos := "law.go:12", after := #[{ on := 4, ground := Go.Ground.data }, { on := 3, ground := Go.Ground.guard }], guard := some (3, true) }) (v := .int .u32 4067132163) rfl (by kernel_rfl) (by kernel_rfl) (by kernel_rfl) (fun _ _ _ h => h) (Or.inl ⟨by rfl, ?_⟩) hH0.out ?_
  · intro w' hSw; have c := (hSw : Whole w' g 23 (arrV tabN)).cell 1; rw [arrV_get _ _ (by omega), tab1] at c; clear hSw; go_simp
  try simp only [Act.put, List.setIfInBounds_toArray, List.set_cons_zero, List.set_cons_succ]
  refine wpAnyH_take (i := 6) (oi := { dst := some 9, op := Go.Op.binOp Go.BinOp.eql 22 (Go.Operand.tmp 8) (Go.Operand.const (Go.Value.int Go.IntKind.u32 4067132163)) 22, type := 4, pos := "law.go:12", after := #[{ on := 5, ground := Go.Ground.data }, { on := 3, ground := Go.Ground.guard }], guard := some (3, true) }) (v := .bool true) rfl (by kernel_rfl) (by kernel_rfl) (by kernel_rfl) (fun _ _ _ h => h) (Or.inl ⟨by rfl, ?_⟩) hH0.out ?_
  · intro w' hSw; clear hSw; go_simp
  try simp only [Act.put, List.setIfInBounds_toArray, List.set_cons_zero, List.set_cons_succ]
  refine wpAnyH_take (i := 7) (oi := { dst := some 10, op := Go.Op.pick (Go.Operand.tmp 6) (Go.Operand.tmp 9) (Go.Operand.const (Go.Value.bool false)), type := 4, pos := "law.go:12", after := #[{ on := 3, ground := Go.Ground.data }, { on := 6, ground := Go.Ground.data }], guard := none }) (v := .bool true) rfl (by kernel_rfl) (by kernel_rfl) (by kernel_rfl) (fun _ _ _ h => h) (Or.inl ⟨by rfl, ?_⟩) hH0.out ?_
  · intro w' hSw; clear hSw; go_simp
  try simp only [Act.put, List.setIfInBounds_toArray, List.set_cons_zero, List.set_cons_succ]
  refine wpAnyH_take (i := 8) (oi := { dst := some 11, op := Go.Op.move (Go.Operand.tmp 10), type := 4, pos := "law.go:12", after := #[{ on := 7, ground := Go.Ground.data }, { on := 3, ground := Go.Ground.chain }], guard := none }) (v := .bool true) rfl (by kernel_rfl) (by kernel_rfl) (by kernel_rfl) (fun _ _ _ h => h) (Or.inl ⟨by rfl, ?_⟩) hH0.out ?_
  · intro w' hSw; clear hSw; go_simp
  try simp only [Act.put, List.setIfInBounds_toArray, List.set_cons_zero, List.set_cons_succ]
  refine wpAnyH_take (i := 9) (oi := { dst := some 12, op := Go.Op.indexAddr 23 (Go.Operand.tmp 1) (Go.Operand.const (Go.Value.int Go.IntKind.i64 255)), type := 0, pos := "law.go:12", after := #[{ on := 8, ground := Go.Ground.guard }], guard := some (8, true) }) (v := .pointer (some ⟨g, 255, none⟩)) rfl (by kernel_rfl) (by kernel_rfl) (by kernel_rfl) (fun _ _ _ h => h) (Or.inl ⟨by rfl, ?_⟩) hH0.out ?_
  · intro w' hSw; clear hSw; go_simp
  try simp only [Act.put, List.setIfInBounds_toArray, List.set_cons_zero, List.set_cons_succ]
  refine wpAnyH_take (i := 10) (oi := { dst := some 13, op := Go.Op.load 22 (Go.Operand.tmp 12), type := 22, pos := "law.go:12", after := #[{ on := 9, ground := Go.Ground.data }, { on := 8, ground := Go.Ground.guard }], guard := some (8, true) }) (v := .int .u32 2910671697) rfl (by kernel_rfl) (by kernel_rfl) (by kernel_rfl) (fun _ _ _ h => h) (Or.inl ⟨by rfl, ?_⟩) hH0.out ?_
  · intro w' hSw; have c := (hSw : Whole w' g 23 (arrV tabN)).cell 255; rw [arrV_get _ _ (by omega), tab255] at c; clear hSw; go_simp
  try simp only [Act.put, List.setIfInBounds_toArray, List.set_cons_zero, List.set_cons_succ]
  refine wpAnyH_take (i := 11) (oi := { dst := some 14, op := Go.Op.binOp Go.BinOp.eql 22 (Go.Operand.tmp 13) (Go.Operand.const (Go.Value.int Go.IntKind.u32 2910671697)) 22, type := 4, pos := "law.go:12", after := #[{ on := 10, ground := Go.Ground.data }, { on := 8, ground := Go.Ground.guard }], guard := some (8, true) }) (v := .bool true) rfl (by kernel_rfl) (by kernel_rfl) (by kernel_rfl) (fun _ _ _ h => h) (Or.inl ⟨by rfl, ?_⟩) hH0.out ?_
  · intro w' hSw; clear hSw; go_simp
  try simp only [Act.put, List.setIfInBounds_toArray, List.set_cons_zero, List.set_cons_succ]
  refine wpAnyH_take (i := 12) (oi := { dst := some 15, op := Go.Op.pick (Go.Operand.tmp 11) (Go.Operand.tmp 14) (Go.Operand.const (Go.Value.bool false)), type := 4, pos := "law.go:12", after := #[{ on := 8, ground := Go.Ground.data }, { on := 11, ground := Go.Ground.data }], guard := none }) (v := .bool true) rfl (by kernel_rfl) (by kernel_rfl) (by kernel_rfl) (fun _ _ _ h => h) (Or.inl ⟨by rfl, ?_⟩) hH0.out ?_
  · intro w' hSw; clear hSw; go_simp
  try simp only [Act.put, List.setIfInBounds_toArray, List.set_cons_zero, List.set_cons_succ]
  refine wpAnyH_take (i := 13) (oi := { dst := some 16, op := Go.Op.move (Go.Operand.tmp 15), type := 4, pos := "law.go:12", after := #[{ on := 12, ground := Go.Ground.data }, { on := 8, ground := Go.Ground.chain }], guard := none }) (v := .bool true) rfl (by kernel_rfl) (by kernel_rfl) (by kernel_rfl) (fun _ _ _ h => h) (Or.inl ⟨by rfl, ?_⟩) hH0.out ?_
  · intro w' hSw; clear hSw; go_simp
  try simp only [Act.put, List.setIfInBounds_toArray, List.set_cons_zero, List.set_cons_succ]
  refine wpAnyH_take (i := 14) (oi := { dst := some 17, op := Go.Op.load 23 (Go.Operand.tmp 1), type := 23, pos := "law.go:12", after := #[{ on := 13, ground := Go.Ground.guard }], guard := some (13, true) }) (v := .agg (arrV tabN)) rfl (by kernel_rfl) (by kernel_rfl) (by kernel_rfl) (fun _ _ _ h => h) (take_whole (by rfl) 23 _ rfl g rfl 23 (arrV tabN) _ (fun _ h => h) Try.underlying23 rfl (by rw [arrV_size]; exact sizeT)) hH0.out ?_
  try simp only [Act.put, List.setIfInBounds_toArray, List.set_cons_zero, List.set_cons_succ]
  refine wpAnyH_ready (rs := [15]) (by kernel_rfl) (by simp) ?_
  refine AllReadyH.cons (o := { dst := some 18, op := Go.Op.buildSlice 24 9 #[(0, Go.Operand.const (Go.Value.int Go.IntKind.u8 49)), (1, Go.Operand.const (Go.Value.int Go.IntKind.u8 50)), (2, Go.Operand.const (Go.Value.int Go.IntKind.u8 51)), (3, Go.Operand.const (Go.Value.int Go.IntKind.u8 52)), (4, Go.Operand.const (Go.Value.int Go.IntKind.u8 53)), (5, Go.Operand.const (Go.Value.int Go.IntKind.u8 54)), (6, Go.Operand.const (Go.Value.int Go.IntKind.u8 55)), (7, Go.Operand.const (Go.Value.int Go.IntKind.u8 56)), (8, Go.Operand.const (Go.Value.int Go.IntKind.u8 57))], type := 24, pos := "law.go:12", after := #[{ on := 13, ground := Go.Ground.guard }], guard := some (13, true) }) rfl (fun K hK => ?_) AllReadyH.nil
  go_simp
  have n1 : Whole (W.alloc (.cells #[.int .u8 49, .int .u8 50, .int .u8 51, .int .u8 52, .int .u8 53, .int .u8 54, .int .u8 55, .int .u8 56, .int .u8 57] 5)) W.heap.size 5 #[.int .u8 49, .int .u8 50, .int .u8 51, .int .u8 52, .int .u8 53, .int .u8 54, .int .u8 55, .int .u8 56, .int .u8 57] := Whole.made W _ _
  have b1 : Below w.heap.size w (W.alloc (.cells #[.int .u8 49, .int .u8 50, .int .u8 51, .int .u8 52, .int .u8 53, .int .u8 54, .int .u8 55, .int .u8 56, .int .u8 57] 5)) := hB0.out.alloc hB0.out.size _
  have h1 : Whole (W.alloc (.cells #[.int .u8 49, .int .u8 50, .int .u8 51, .int .u8 52, .int .u8 53, .int .u8 54, .int .u8 55, .int .u8 56, .int .u8 57] 5)) g 23 (arrV tabN) := hH0.out.alloc _
  have g1 : g < W.heap.size := hH0.out.lt
  refine hK.out _ _ h1 (fun _ => ?_)
  clear hK K
  try simp only [Act.put, List.setIfInBounds_toArray, List.set_cons_zero, List.set_cons_succ]
  generalize W.alloc (.cells #[.int .u8 49, .int .u8 50, .int .u8 51, .int .u8 52, .int .u8 53, .int .u8 54, .int .u8 55, .int .u8 56, .int .u8 57] 5) = W1 at *
  generalize W.heap.size = i1 at *
  have B1 := Lib.hid b1
  have H1 := Lib.hid h1
  clear b1 h1
  have N1x1 := Lib.hid n1
  clear n1
  refine wpAnyH_ready (rs := [16]) (by kernel_rfl) (by simp) ?_
  refine AllReadyH.cons (o := { dst := some 19, op := Go.Op.convert 24 24 (Go.Operand.tmp 18), type := 24, pos := "law.go:12", after := #[{ on := 15, ground := Go.Ground.data }, { on := 13, ground := Go.Ground.guard }], guard := some (13, true) }) rfl (fun K hK => ?_) AllReadyH.nil
  obtain ⟨W2, r2, n2, x2, y2⟩ := conv_mark (n := 9) (c := 9) N1x1.out
  have h2 : Whole W2 g 23 (arrV tabN) := H1.out.same (y2 g (by omega))
  have b2 : Below w.heap.size w W2 := B1.out.trans (x2.mono (by omega))
  clear x2 y2
  have N2 := Lib.hid n2
  go_simp
  refine hK.out _ _ h2 (fun _ => ?_)
  clear hK K r2 N2
  try simp only [Act.put, List.setIfInBounds_toArray, List.set_cons_zero, List.set_cons_succ]
  have B2 := Lib.hid b2
  have H2 := Lib.hid h2
  clear b2 h2
  have N2x2 := Lib.hid n2
  clear n2
  refine wpAnyH_ready (rs := [17]) (by kernel_rfl) (by simp) ?_
  refine AllReadyH.cons (o := { dst := some 20, op := Go.Op.call { callee := Go.Callee.value (Go.Operand.func 14), args := #[Go.Operand.tmp 17, Go.Operand.tmp 19], argTypes := #[23, 24] }, type := 22, pos := "law.go:12", after := #[{ on := 14, ground := Go.Ground.data }, { on := 16, ground := Go.Ground.data }, { on := 13, ground := Go.Ground.chain }, { on := 13, ground := Go.Ground.guard }], guard := some (13, true) }) rfl (fun K hK => ?_) AllReadyH.nil
  go_simp
  refine (of_any tabN tabN_all _ 9 9 word9 _ (N2x2.out.bytes word9 rfl rfl) (by simp [maxLen])).mono ?_
  rintro e W3 ⟨rfl, a3⟩
  have A3 := Lib.hid a3
  clear a3
  go_wp2_with (fail)
  have h3 : Whole W3 g 23 (arrV tabN) := H2.out.after' A3.out
  have b3 : Below w.heap.size w W3 := B2.out.trans (A3.out.mono B2.out.size)
  refine hK.out _ _ h3 (fun _ => ?_)
  clear hK K A3
  try simp only [Act.put, List.setIfInBounds_toArray, List.set_cons_zero, List.set_cons_succ]
  have B3 := Lib.hid b3
  have H3 := Lib.hid h3
  clear b3 h3
  refine wpAnyH_take (i := 18) (oi := { dst := some 21, op := Go.Op.binOp Go.BinOp.eql 22 (Go.Operand.tmp 20) (Go.Operand.const (Go.Value.int Go.IntKind.u32 3808858755)) 22, type := 4, pos := "law.go:12", after := #[{ on := 17, ground := Go.Ground.data }, { on := 13, ground := Go.Ground.guard }], guard := some (13, true) }) (v := .bool true) rfl (by kernel_rfl) (by kernel_rfl) (by kernel_rfl) (fun _ _ _ h => h) (Or.inl ⟨by rfl, ?_⟩) H3.out ?_
  · intro w' hSw; clear hSw; go_simp
  try simp only [Act.put, List.setIfInBounds_toArray, List.set_cons_zero, List.set_cons_succ]
  refine wpAnyH_take (i := 19) (oi := { dst := some 22, op := Go.Op.pick (Go.Operand.tmp 16) (Go.Operand.tmp 21) (Go.Operand.const (Go.Value.bool false)), type := 4, pos := "law.go:12", after := #[{ on := 13, ground := Go.Ground.data }, { on := 18, ground := Go.Ground.data }], guard := none }) (v := .bool true) rfl (by kernel_rfl) (by kernel_rfl) (by kernel_rfl) (fun _ _ _ h => h) (Or.inl ⟨by rfl, ?_⟩) H3.out ?_
  · intro w' hSw; clear hSw; go_simp
  try simp only [Act.put, List.setIfInBounds_toArray, List.set_cons_zero, List.set_cons_succ]
  refine wpAnyH_take (i := 20) (oi := { dst := some 23, op := Go.Op.move (Go.Operand.tmp 22), type := 4, pos := "law.go:12", after := #[{ on := 19, ground := Go.Ground.data }, { on := 17, ground := Go.Ground.chain }], guard := none }) (v := .bool true) rfl (by kernel_rfl) (by kernel_rfl) (by kernel_rfl) (fun _ _ _ h => h) (Or.inl ⟨by rfl, ?_⟩) H3.out ?_
  · intro w' hSw; clear hSw; go_simp
  try simp only [Act.put, List.setIfInBounds_toArray, List.set_cons_zero, List.set_cons_succ]
  refine wpAnyH_take (i := 21) (oi := { dst := some 24, op := Go.Op.load 23 (Go.Operand.tmp 1), type := 23, pos := "law.go:12", after := #[{ on := 20, ground := Go.Ground.guard }], guard := some (20, true) }) (v := .agg (arrV tabN)) rfl (by kernel_rfl) (by kernel_rfl) (by kernel_rfl) (fun _ _ _ h => h) (take_whole (by rfl) 23 _ rfl g rfl 23 (arrV tabN) _ (fun _ h => h) Try.underlying23 rfl (by rw [arrV_size]; exact sizeT)) H3.out ?_
  try simp only [Act.put, List.setIfInBounds_toArray, List.set_cons_zero, List.set_cons_succ]
  refine wpAnyH_take (i := 22) (oi := { dst := some 25, op := Go.Op.load 23 (Go.Operand.tmp 1), type := 23, pos := "law.go:12", after := #[{ on := 20, ground := Go.Ground.guard }], guard := some (20, true) }) (v := .agg (arrV tabN)) rfl (by kernel_rfl) (by kernel_rfl) (by kernel_rfl) (fun _ _ _ h => h) (take_whole (by rfl) 23 _ rfl g rfl 23 (arrV tabN) _ (fun _ h => h) Try.underlying23 rfl (by rw [arrV_size]; exact sizeT)) H3.out ?_
  try simp only [Act.put, List.setIfInBounds_toArray, List.set_cons_zero, List.set_cons_succ]
  refine wpAnyH_ready (rs := [23, 26]) (by kernel_rfl) (by simp) ?_
  refine AllReadyH.cons (o := { dst := some 26, op := Go.Op.buildSlice 24 4 #[(0, Go.Operand.const (Go.Value.int Go.IntKind.u8 49)), (1, Go.Operand.const (Go.Value.int Go.IntKind.u8 50)), (2, Go.Operand.const (Go.Value.int Go.IntKind.u8 51)), (3, Go.Operand.const (Go.Value.int Go.IntKind.u8 52))], type := 24, pos := "law.go:12", after := #[{ on := 20, ground := Go.Ground.guard }], guard := some (20, true) }) rfl (fun K hK => ?_) ?_
  · skip
    go_simp
    have n4 : Whole (W3.alloc (.cells #[.int .u8 49, .int .u8 50, .int .u8 51, .int .u8 52] 5)) W3.heap.size 5 #[.int .u8 49, .int .u8 50, .int .u8 51, .int .u8 52] := Whole.made W3 _ _
    have b4 : Below w.heap.size w (W3.alloc (.cells #[.int .u8 49, .int .u8 50, .int .u8 51, .int .u8 52] 5)) := B3.out.alloc B3.out.size _
    have h4 : Whole (W3.alloc (.cells #[.int .u8 49, .int .u8 50, .int .u8 51, .int .u8 52] 5)) g 23 (arrV tabN) := H3.out.alloc _
    have g4 : g < W3.heap.size := H3.out.lt
    refine hK.out _ _ h4 (fun _ => ?_)
    clear hK K
    try simp only [Act.put, List.setIfInBounds_toArray, List.set_cons_zero, List.set_cons_succ]
    generalize W3.alloc (.cells #[.int .u8 49, .int .u8 50, .int .u8 51, .int .u8 52] 5) = W4 at *
    generalize W3.heap.size = i4 at *
    have B4 := Lib.hid b4
    have H4 := Lib.hid h4
    clear b4 h4
    have N4x4 := Lib.hid n4
    clear n4
    refine wpAnyH_ready (rs := [24, 26]) (by kernel_rfl) (by simp) ?_
    refine AllReadyH.cons (o := { dst := some 27, op := Go.Op.convert 24 24 (Go.Operand.tmp 26), type := 24, pos := "law.go:12", after := #[{ on := 23, ground := Go.Ground.data }, { on := 20, ground := Go.Ground.guard }], guard := some (20, true) }) rfl (fun K hK => ?_) ?_
    · skip
      obtain ⟨W5, r5, n5, x5, y5⟩ := conv_mark (n := 4) (c := 4) N4x4.out
      have h5 : Whole W5 g 23 (arrV tabN) := H4.out.same (y5 g (by omega))
      have b5 : Below w.heap.size w W5 := B4.out.trans (x5.mono (by omega))
      clear x5 y5
      have N5 := Lib.hid n5
      go_simp
      refine hK.out _ _ h5 (fun _ => ?_)
      clear hK K r5 N5
      try simp only [Act.put, List.setIfInBounds_toArray, List.set_cons_zero, List.set_cons_succ]
      have B5 := Lib.hid b5
      have H5 := Lib.hid h5
      clear b5 h5
      have N5x5 := Lib.hid n5
      clear n5
      refine wpAnyH_ready (rs := [25, 26]) (by kernel_rfl) (by simp) ?_
      refine AllReadyH.cons (o := { dst := some 28, op := Go.Op.call { callee := Go.Callee.value (Go.Operand.func 14), args := #[Go.Operand.tmp 25, Go.Operand.tmp 27], argTypes := #[23, 24] }, type := 22, pos := "law.go:12", after := #[{ on := 22, ground := Go.Ground.data }, { on := 24, ground := Go.Ground.data }, { on := 20, ground := Go.Ground.chain }, { on := 20, ground := Go.Ground.guard }], guard := some (20, true) }) rfl (fun K hK => ?_) ?_
      · skip
        go_simp
        refine (of_any tabN tabN_all _ 4 4 word4 _ (N5x5.out.bytes word4 rfl rfl) (by simp [maxLen])).mono ?_
        rintro e W6 ⟨rfl, a6⟩
        have A6 := Lib.hid a6
        clear a6
        go_wp2_with (fail)
        have h6 : Whole W6 g 23 (arrV tabN) := H5.out.after' A6.out
        have b6 : Below w.heap.size w W6 := B5.out.trans (A6.out.mono B5.out.size)
        refine hK.out _ _ h6 (fun _ => ?_)
        clear hK K A6
        try simp only [Act.put, List.setIfInBounds_toArray, List.set_cons_zero, List.set_cons_succ]
        have B6 := Lib.hid b6
        have H6 := Lib.hid h6
        clear b6 h6
        refine wpAnyH_ready (rs := [26]) (by kernel_rfl) (by simp) ?_
        refine AllReadyH.cons (o := { dst := some 29, op := Go.Op.buildSlice 24 5 #[(0, Go.Operand.const (Go.Value.int Go.IntKind.u8 53)), (1, Go.Operand.const (Go.Value.int Go.IntKind.u8 54)), (2, Go.Operand.const (Go.Value.int Go.IntKind.u8 55)), (3, Go.Operand.const (Go.Value.int Go.IntKind.u8 56)), (4, Go.Operand.const (Go.Value.int Go.IntKind.u8 57))], type := 24, pos := "law.go:12", after := #[{ on := 20, ground := Go.Ground.guard }], guard := some (20, true) }) rfl (fun K hK => ?_) AllReadyH.nil
        go_simp
        have n7 : Whole (W6.alloc (.cells #[.int .u8 53, .int .u8 54, .int .u8 55, .int .u8 56, .int .u8 57] 5)) W6.heap.size 5 #[.int .u8 53, .int .u8 54, .int .u8 55, .int .u8 56, .int .u8 57] := Whole.made W6 _ _
        have b7 : Below w.heap.size w (W6.alloc (.cells #[.int .u8 53, .int .u8 54, .int .u8 55, .int .u8 56, .int .u8 57] 5)) := B6.out.alloc B6.out.size _
        have h7 : Whole (W6.alloc (.cells #[.int .u8 53, .int .u8 54, .int .u8 55, .int .u8 56, .int .u8 57] 5)) g 23 (arrV tabN) := H6.out.alloc _
        have g7 : g < W6.heap.size := H6.out.lt
        refine hK.out _ _ h7 (fun _ => ?_)
        clear hK K
        try simp only [Act.put, List.setIfInBounds_toArray, List.set_cons_zero, List.set_cons_succ]
        generalize W6.alloc (.cells #[.int .u8 53, .int .u8 54, .int .u8 55, .int .u8 56, .int .u8 57] 5) = W7 at *
        generalize W6.heap.size = i7 at *
        have B7 := Lib.hid b7
        have H7 := Lib.hid h7
        clear b7 h7
        have N7x7 := Lib.hid n7
        clear n7
        refine wpAnyH_ready (rs := [27]) (by kernel_rfl) (by simp) ?_
        refine AllReadyH.cons (o := { dst := some 30, op := Go.Op.convert 24 24 (Go.Operand.tmp 29), type := 24, pos := "law.go:12", after := #[{ on := 26, ground := Go.Ground.data }, { on := 20, ground := Go.Ground.guard }], guard := some (20, true) }) rfl (fun K hK => ?_) AllReadyH.nil
        obtain ⟨W8, r8, n8, x8, y8⟩ := conv_mark (n := 5) (c := 5) N7x7.out
        have h8 : Whole W8 g 23 (arrV tabN) := H7.out.same (y8 g (by omega))
        have b8 : Below w.heap.size w W8 := B7.out.trans (x8.mono (by omega))
        clear x8 y8
        have N8 := Lib.hid n8
        go_simp
        refine hK.out _ _ h8 (fun _ => ?_)
        clear hK K r8 N8
        try simp only [Act.put, List.setIfInBounds_toArray, List.set_cons_zero, List.set_cons_succ]
        have B8 := Lib.hid b8
        have H8 := Lib.hid h8
        clear b8 h8
        have N8x8 := Lib.hid n8
        clear n8
        refine wpAnyH_ready (rs := [28]) (by kernel_rfl) (by simp) ?_
        refine AllReadyH.cons (o := { dst := some 31, op := Go.Op.call { callee := Go.Callee.value (Go.Operand.func 12), args := #[Go.Operand.tmp 24, Go.Operand.tmp 28, Go.Operand.tmp 30], argTypes := #[23, 22, 24] }, type := 22, pos := "law.go:12", after := #[{ on := 21, ground := Go.Ground.data }, { on := 25, ground := Go.Ground.data }, { on := 27, ground := Go.Ground.data }, { on := 25, ground := Go.Ground.chain }, { on := 20, ground := Go.Ground.guard }], guard := some (20, true) }) rfl (fun K hK => ?_) AllReadyH.nil
        go_simp
        refine (on_any tabN tabN_all (onN tabN 0 word4) (onN_lt _ _ _) _ 5 5 word5 _ (N8x8.out.bytes word5 rfl rfl) (by simp [maxLen])).mono ?_
        rintro e W9 ⟨rfl, a9⟩
        have A9 := Lib.hid a9
        clear a9
        go_wp2_with (fail)
        have h9 : Whole W9 g 23 (arrV tabN) := H8.out.after' A9.out
        have b9 : Below w.heap.size w W9 := B8.out.trans (A9.out.mono B8.out.size)
        refine hK.out _ _ h9 (fun _ => ?_)
        clear hK K A9
        try simp only [Act.put, List.setIfInBounds_toArray, List.set_cons_zero, List.set_cons_succ]
        have B9 := Lib.hid b9
        have H9 := Lib.hid h9
        clear b9 h9
        refine wpAnyH_take (i := 29) (oi := { dst := some 32, op := Go.Op.binOp Go.BinOp.eql 22 (Go.Operand.tmp 31) (Go.Operand.const (Go.Value.int Go.IntKind.u32 3808858755)) 22, type := 4, pos := "law.go:12", after := #[{ on := 28, ground := Go.Ground.data }, { on := 20, ground := Go.Ground.guard }], guard := some (20, true) }) (v := .bool true) rfl (by kernel_rfl) (by kernel_rfl) (by kernel_rfl) (fun _ _ _ h => h) (Or.inl ⟨by rfl, ?_⟩) H9.out ?_
        · intro w' hSw; clear hSw; go_simp
        try simp only [Act.put, List.setIfInBounds_toArray, List.set_cons_zero, List.set_cons_succ]
        refine wpAnyH_take (i := 30) (oi := { dst := some 33, op := Go.Op.pick (Go.Operand.tmp 23) (Go.Operand.tmp 32) (Go.Operand.const (Go.Value.bool false)), type := 4, pos := "law.go:12", after := #[{ on := 20, ground := Go.Ground.data }, { on := 29, ground := Go.Ground.data }], guard := none }) (v := .bool true) rfl (by kernel_rfl) (by kernel_rfl) (by kernel_rfl) (fun _ _ _ h => h) (Or.inl ⟨by rfl, ?_⟩) H9.out ?_
        · intro w' hSw; clear hSw; go_simp
        try simp only [Act.put, List.setIfInBounds_toArray, List.set_cons_zero, List.set_cons_succ]
        refine wpAnyH_take (i := 31) (oi := { dst := some 34, op := Go.Op.move (Go.Operand.tmp 33), type := 4, pos := "law.go:12", after := #[{ on := 30, ground := Go.Ground.data }, { on := 28, ground := Go.Ground.chain }], guard := none }) (v := .bool true) rfl (by kernel_rfl) (by kernel_rfl) (by kernel_rfl) (fun _ _ _ h => h) (Or.inl ⟨by rfl, ?_⟩) H9.out ?_
        · intro w' hSw; clear hSw; go_simp
        try simp only [Act.put, List.setIfInBounds_toArray, List.set_cons_zero, List.set_cons_succ]
        refine wpAnyH_take (i := 32) (oi := { dst := some 35, op := Go.Op.load 23 (Go.Operand.tmp 1), type := 23, pos := "law.go:12", after := #[{ on := 31, ground := Go.Ground.guard }], guard := some (31, true) }) (v := .agg (arrV tabN)) rfl (by kernel_rfl) (by kernel_rfl) (by kernel_rfl) (fun _ _ _ h => h) (take_whole (by rfl) 23 _ rfl g rfl 23 (arrV tabN) _ (fun _ h => h) Try.underlying23 rfl (by rw [arrV_size]; exact sizeT)) H9.out ?_
        try simp only [Act.put, List.setIfInBounds_toArray, List.set_cons_zero, List.set_cons_succ]
        refine wpAnyH_ready (rs := [33]) (by kernel_rfl) (by simp) ?_
        refine AllReadyH.cons (o := { dst := some 36, op := Go.Op.call { callee := Go.Callee.value (Go.Operand.func 14), args := #[Go.Operand.tmp 35, Go.Operand.const (Go.Value.slice none 0 0)], argTypes := #[23, 24] }, type := 22, pos := "law.go:12", after := #[{ on := 32, ground := Go.Ground.data }, { on := 31, ground := Go.Ground.chain }, { on := 31, ground := Go.Ground.guard }], guard := some (31, true) }) rfl (fun K hK => ?_) AllReadyH.nil
        go_simp
        refine (of_any tabN tabN_all none 0 0 [] _ (Bytes.nil _ _ _) (by simp [maxLen])).mono ?_
        rintro e W10 ⟨rfl, a10⟩
        have A10 := Lib.hid a10
        clear a10
        go_wp2_with (fail)
        have h10 : Whole W10 g 23 (arrV tabN) := H9.out.after' A10.out
        have b10 : Below w.heap.size w W10 := B9.out.trans (A10.out.mono B9.out.size)
        refine hK.out _ _ h10 (fun _ => ?_)
        clear hK K A10
        try simp only [Act.put, List.setIfInBounds_toArray, List.set_cons_zero, List.set_cons_succ]
        have B10 := Lib.hid b10
        have H10 := Lib.hid h10
        clear b10 h10
        refine wpAnyH_take (i := 34) (oi := { dst := some 37, op := Go.Op.binOp Go.BinOp.eql 22 (Go.Operand.tmp 36) (Go.Operand.const (Go.Value.int Go.IntKind.u32 0)) 22, type := 4, pos := "law.go:12", after := #[{ on := 33, ground := Go.Ground.data }, { on := 31, ground := Go.Ground.guard }], guard := some (31, true) }) (v := .bool true) rfl (by kernel_rfl) (by kernel_rfl) (by kernel_rfl) (fun _ _ _ h => h) (Or.inl ⟨by rfl, ?_⟩) H10.out ?_
        · intro w' hSw; clear hSw; go_simp
        try simp only [Act.put, List.setIfInBounds_toArray, List.set_cons_zero, List.set_cons_succ]
        refine wpAnyH_take (i := 35) (oi := { dst := some 38, op := Go.Op.pick (Go.Operand.tmp 34) (Go.Operand.tmp 37) (Go.Operand.const (Go.Value.bool false)), type := 4, pos := "law.go:12", after := #[{ on := 31, ground := Go.Ground.data }, { on := 34, ground := Go.Ground.data }], guard := none }) (v := .bool true) rfl (by kernel_rfl) (by kernel_rfl) (by kernel_rfl) (fun _ _ _ h => h) (Or.inl ⟨by rfl, ?_⟩) H10.out ?_
        · intro w' hSw; clear hSw; go_simp
        try simp only [Act.put, List.setIfInBounds_toArray, List.set_cons_zero, List.set_cons_succ]
        refine wpAnyH_take (i := 36) (oi := { dst := some 0, op := Go.Op.assign (Go.Operand.tmp 38), type := 4, pos := "law.go:12", after := #[{ on := 35, ground := Go.Ground.data }, { on := 33, ground := Go.Ground.chain }, { on := 0, ground := Go.Ground.phase }, { on := 1, ground := Go.Ground.phase }, { on := 2, ground := Go.Ground.phase }, { on := 3, ground := Go.Ground.phase }, { on := 4, ground := Go.Ground.phase }, { on := 5, ground := Go.Ground.phase }, { on := 6, ground := Go.Ground.phase }, { on := 7, ground := Go.Ground.phase }, { on := 8, ground := Go.Ground.phase }, { on := 9, ground := Go.Ground.phase }, { on := 10, ground := Go.Ground.phase }, { on := 11, ground := Go.Ground.phase }, { on := 12, ground := Go.Ground.phase }, { on := 13, ground := Go.Ground.phase }, { on := 14, ground := Go.Ground.phase }, { on := 15, ground := Go.Ground.phase }, { on := 16, ground := Go.Ground.phase }, { on := 17, ground := Go.Ground.phase }, { on := 18, ground := Go.Ground.phase }, { on := 19, ground := Go.Ground.phase }, { on := 20, ground := Go.Ground.phase }, { on := 21, ground := Go.Ground.phase }, { on := 22, ground := Go.Ground.phase }, { on := 23, ground := Go.Ground.phase }, { on := 24, ground := Go.Ground.phase }, { on := 25, ground := Go.Ground.phase }, { on := 26, ground := Go.Ground.phase }, { on := 27, ground := Go.Ground.phase }, { on := 28, ground := Go.Ground.phase }, { on := 29, ground := Go.Ground.phase }, { on := 30, ground := Go.Ground.phase }, { on := 31, ground := Go.Ground.phase }, { on := 32, ground := Go.Ground.phase }, { on := 33, ground := Go.Ground.phase }, { on := 34, ground := Go.Ground.phase }, { on := 35, ground := Go.Ground.phase }], guard := none }) (v := .bool true) rfl (by kernel_rfl) (by kernel_rfl) (by kernel_rfl) (fun _ _ _ h => h) (Or.inl ⟨by rfl, ?_⟩) H10.out ?_
        · intro w' hSw; clear hSw; go_simp
        try simp only [Act.put, List.setIfInBounds_toArray, List.set_cons_zero]
        refine wpAnyH_done (by kernel_rfl) ?_ _
        refine NoPanic.normal ?_
        have bz := B10.out
        go_wp2_with (fail)
        go_ret
        exact ⟨rfl, bz⟩
      refine AllReadyH.cons (o := { dst := some 29, op := Go.Op.buildSlice 24 5 #[(0, Go.Operand.const (Go.Value.int Go.IntKind.u8 53)), (1, Go.Operand.const (Go.Value.int Go.IntKind.u8 54)), (2, Go.Operand.const (Go.Value.int Go.IntKind.u8 55)), (3, Go.Operand.const (Go.Value.int Go.IntKind.u8 56)), (4, Go.Operand.const (Go.Value.int Go.IntKind.u8 57))], type := 24, pos := "law.go:12", after := #[{ on := 20, ground := Go.Ground.guard }], guard := some (20, true) }) rfl (fun K hK => ?_) ?_
      · skip
        go_simp
        have n11 : Whole (W5.alloc (.cells #[.int .u8 53, .int .u8 54, .int .u8 55, .int .u8 56, .int .u8 57] 5)) W5.heap.size 5 #[.int .u8 53, .int .u8 54, .int .u8 55, .int .u8 56, .int .u8 57] := Whole.made W5 _ _
        have b11 : Below w.heap.size w (W5.alloc (.cells #[.int .u8 53, .int .u8 54, .int .u8 55, .int .u8 56, .int .u8 57] 5)) := B5.out.alloc B5.out.size _
        have h11 : Whole (W5.alloc (.cells #[.int .u8 53, .int .u8 54, .int .u8 55, .int .u8 56, .int .u8 57] 5)) g 23 (arrV tabN) := H5.out.alloc _
        have g11 : g < W5.heap.size := H5.out.lt
        have mword411 := N5x5.out.alloc (.cells #[.int .u8 53, .int .u8 54, .int .u8 55, .int .u8 56, .int .u8 57] 5)
        have lword411 : i4 < W5.heap.size := N5x5.out.lt
        refine hK.out _ _ h11 (fun _ => ?_)
        clear hK K
        try simp only [Act.put, List.setIfInBounds_toArray, List.set_cons_zero, List.set_cons_succ]
        generalize W5.alloc (.cells #[.int .u8 53, .int .u8 54, .int .u8 55, .int .u8 56, .int .u8 57] 5) = W11 at *
        generalize W5.heap.size = i11 at *
        have B11 := Lib.hid b11
        have H11 := Lib.hid h11
        clear b11 h11
        have MWORD411x11 := Lib.hid mword411
        clear mword411
        have N11x11 := Lib.hid n11
        clear n11
        refine wpAnyH_ready (rs := [25, 27]) (by kernel_rfl) (by simp) ?_
        refine AllReadyH.cons (o := { dst := some 28, op := Go.Op.call { callee := Go.Callee.value (Go.Operand.func 14), args := #[Go.Operand.tmp 25, Go.Operand.tmp 27], argTypes := #[23, 24] }, type := 22, pos := "law.go:12", after := #[{ on := 22, ground := Go.Ground.data }, { on := 24, ground := Go.Ground.data }, { on := 20, ground := Go.Ground.chain }, { on := 20, ground := Go.Ground.guard }], guard := some (20, true) }) rfl (fun K hK => ?_) ?_
        · skip
          go_simp
          refine (of_any tabN tabN_all _ 4 4 word4 _ (MWORD411x11.out.bytes word4 rfl rfl) (by simp [maxLen])).mono ?_
          rintro e W12 ⟨rfl, a12⟩
          have A12 := Lib.hid a12
          clear a12
          go_wp2_with (fail)
          have h12 : Whole W12 g 23 (arrV tabN) := H11.out.after' A12.out
          have b12 : Below w.heap.size w W12 := B11.out.trans (A12.out.mono B11.out.size)
          have mword512 := N11x11.out.after' A12.out
          refine hK.out _ _ h12 (fun _ => ?_)
          clear hK K A12
          try simp only [Act.put, List.setIfInBounds_toArray, List.set_cons_zero, List.set_cons_succ]
          have B12 := Lib.hid b12
          have H12 := Lib.hid h12
          clear b12 h12
          have MWORD512x12 := Lib.hid mword512
          clear mword512
          refine wpAnyH_ready (rs := [27]) (by kernel_rfl) (by simp) ?_
          refine AllReadyH.cons (o := { dst := some 30, op := Go.Op.convert 24 24 (Go.Operand.tmp 29), type := 24, pos := "law.go:12", after := #[{ on := 26, ground := Go.Ground.data }, { on := 20, ground := Go.Ground.guard }], guard := some (20, true) }) rfl (fun K hK => ?_) AllReadyH.nil
          obtain ⟨W13, r13, n13, x13, y13⟩ := conv_mark (n := 5) (c := 5) MWORD512x12.out
          have h13 : Whole W13 g 23 (arrV tabN) := H12.out.same (y13 g (by omega))
          have b13 : Below w.heap.size w W13 := B12.out.trans (x13.mono (by omega))
          clear x13 y13
          have N13 := Lib.hid n13
          go_simp
          refine hK.out _ _ h13 (fun _ => ?_)
          clear hK K r13 N13
          try simp only [Act.put, List.setIfInBounds_toArray, List.set_cons_zero, List.set_cons_succ]
          have B13 := Lib.hid b13
          have H13 := Lib.hid h13
          clear b13 h13
          have N13x13 := Lib.hid n13
          clear n13
          refine wpAnyH_ready (rs := [28]) (by kernel_rfl) (by simp) ?_
          refine AllReadyH.cons (o := { dst := some 31, op := Go.Op.call { callee := Go.Callee.value (Go.Operand.func 12), args := #[Go.Operand.tmp 24, Go.Operand.tmp 28, Go.Operand.tmp 30], argTypes := #[23, 22, 24] }, type := 22, pos := "law.go:12", after := #[{ on := 21, ground := Go.Ground.data }, { on := 25, ground := Go.Ground.data }, { on := 27, ground := Go.Ground.data }, { on := 25, ground := Go.Ground.chain }, { on := 20, ground := Go.Ground.guard }], guard := some (20, true) }) rfl (fun K hK => ?_) AllReadyH.nil
          go_simp
          refine (on_any tabN tabN_all (onN tabN 0 word4) (onN_lt _ _ _) _ 5 5 word5 _ (N13x13.out.bytes word5 rfl rfl) (by simp [maxLen])).mono ?_
          rintro e W14 ⟨rfl, a14⟩
          have A14 := Lib.hid a14
          clear a14
          go_wp2_with (fail)
          have h14 : Whole W14 g 23 (arrV tabN) := H13.out.after' A14.out
          have b14 : Below w.heap.size w W14 := B13.out.trans (A14.out.mono B13.out.size)
          refine hK.out _ _ h14 (fun _ => ?_)
          clear hK K A14
          try simp only [Act.put, List.setIfInBounds_toArray, List.set_cons_zero, List.set_cons_succ]
          have B14 := Lib.hid b14
          have H14 := Lib.hid h14
          clear b14 h14
          refine wpAnyH_take (i := 29) (oi := { dst := some 32, op := Go.Op.binOp Go.BinOp.eql 22 (Go.Operand.tmp 31) (Go.Operand.const (Go.Value.int Go.IntKind.u32 3808858755)) 22, type := 4, pos := "law.go:12", after := #[{ on := 28, ground := Go.Ground.data }, { on := 20, ground := Go.Ground.guard }], guard := some (20, true) }) (v := .bool true) rfl (by kernel_rfl) (by kernel_rfl) (by kernel_rfl) (fun _ _ _ h => h) (Or.inl ⟨by rfl, ?_⟩) H14.out ?_
          · intro w' hSw; clear hSw; go_simp
          try simp only [Act.put, List.setIfInBounds_toArray, List.set_cons_zero, List.set_cons_succ]
          refine wpAnyH_take (i := 30) (oi := { dst := some 33, op := Go.Op.pick (Go.Operand.tmp 23) (Go.Operand.tmp 32) (Go.Operand.const (Go.Value.bool false)), type := 4, pos := "law.go:12", after := #[{ on := 20, ground := Go.Ground.data }, { on := 29, ground := Go.Ground.data }], guard := none }) (v := .bool true) rfl (by kernel_rfl) (by kernel_rfl) (by kernel_rfl) (fun _ _ _ h => h) (Or.inl ⟨by rfl, ?_⟩) H14.out ?_
          · intro w' hSw; clear hSw; go_simp
          try simp only [Act.put, List.setIfInBounds_toArray, List.set_cons_zero, List.set_cons_succ]
          refine wpAnyH_take (i := 31) (oi := { dst := some 34, op := Go.Op.move (Go.Operand.tmp 33), type := 4, pos := "law.go:12", after := #[{ on := 30, ground := Go.Ground.data }, { on := 28, ground := Go.Ground.chain }], guard := none }) (v := .bool true) rfl (by kernel_rfl) (by kernel_rfl) (by kernel_rfl) (fun _ _ _ h => h) (Or.inl ⟨by rfl, ?_⟩) H14.out ?_
          · intro w' hSw; clear hSw; go_simp
          try simp only [Act.put, List.setIfInBounds_toArray, List.set_cons_zero, List.set_cons_succ]
          refine wpAnyH_take (i := 32) (oi := { dst := some 35, op := Go.Op.load 23 (Go.Operand.tmp 1), type := 23, pos := "law.go:12", after := #[{ on := 31, ground := Go.Ground.guard }], guard := some (31, true) }) (v := .agg (arrV tabN)) rfl (by kernel_rfl) (by kernel_rfl) (by kernel_rfl) (fun _ _ _ h => h) (take_whole (by rfl) 23 _ rfl g rfl 23 (arrV tabN) _ (fun _ h => h) Try.underlying23 rfl (by rw [arrV_size]; exact sizeT)) H14.out ?_
          try simp only [Act.put, List.setIfInBounds_toArray, List.set_cons_zero, List.set_cons_succ]
          refine wpAnyH_ready (rs := [33]) (by kernel_rfl) (by simp) ?_
          refine AllReadyH.cons (o := { dst := some 36, op := Go.Op.call { callee := Go.Callee.value (Go.Operand.func 14), args := #[Go.Operand.tmp 35, Go.Operand.const (Go.Value.slice none 0 0)], argTypes := #[23, 24] }, type := 22, pos := "law.go:12", after := #[{ on := 32, ground := Go.Ground.data }, { on := 31, ground := Go.Ground.chain }, { on := 31, ground := Go.Ground.guard }], guard := some (31, true) }) rfl (fun K hK => ?_) AllReadyH.nil
          go_simp
          refine (of_any tabN tabN_all none 0 0 [] _ (Bytes.nil _ _ _) (by simp [maxLen])).mono ?_
          rintro e W15 ⟨rfl, a15⟩
          have A15 := Lib.hid a15
          clear a15
          go_wp2_with (fail)
          have h15 : Whole W15 g 23 (arrV tabN) := H14.out.after' A15.out
          have b15 : Below w.heap.size w W15 := B14.out.trans (A15.out.mono B14.out.size)
          refine hK.out _ _ h15 (fun _ => ?_)
          clear hK K A15
          try simp only [Act.put, List.setIfInBounds_toArray, List.set_cons_zero, List.set_cons_succ]
          have B15 := Lib.hid b15
          have H15 := Lib.hid h15
          clear b15 h15
          refine wpAnyH_take (i := 34) (oi := { dst := some 37, op := Go.Op.binOp Go.BinOp.eql 22 (Go.Operand.tmp 36) (Go.Operand.const (Go.Value.int Go.IntKind.u32 0)) 22, type := 4, pos := "law.go:12", after := #[{ on := 33, ground := Go.Ground.data }, { on := 31, ground := Go.Ground.guard }], guard := some (31, true) }) (v := .bool true) rfl (by kernel_rfl) (by kernel_rfl) (by kernel_rfl) (fun _ _ _ h => h) (Or.inl ⟨by rfl, ?_⟩) H15.out ?_
          · intro w' hSw; clear hSw; go_simp
          try simp only [Act.put, List.setIfInBounds_toArray, List.set_cons_zero, List.set_cons_succ]
          refine wpAnyH_take (i := 35) (oi := { dst := some 38, op := Go.Op.pick (Go.Operand.tmp 34) (Go.Operand.tmp 37) (Go.Operand.const (Go.Value.bool false)), type := 4, pos := "law.go:12", after := #[{ on := 31, ground := Go.Ground.data }, { on := 34, ground := Go.Ground.data }], guard := none }) (v := .bool true) rfl (by kernel_rfl) (by kernel_rfl) (by kernel_rfl) (fun _ _ _ h => h) (Or.inl ⟨by rfl, ?_⟩) H15.out ?_
          · intro w' hSw; clear hSw; go_simp
          try simp only [Act.put, List.setIfInBounds_toArray, List.set_cons_zero, List.set_cons_succ]
          refine wpAnyH_take (i := 36) (oi := { dst := some 0, op := Go.Op.assign (Go.Operand.tmp 38), type := 4, pos := "law.go:12", after := #[{ on := 35, ground := Go.Ground.data }, { on := 33, ground := Go.Ground.chain }, { on := 0, ground := Go.Ground.phase }, { on := 1, ground := Go.Ground.phase }, { on := 2, ground := Go.Ground.phase }, { on := 3, ground := Go.Ground.phase }, { on := 4, ground := Go.Ground.phase }, { on := 5, ground := Go.Ground.phase }, { on := 6, ground := Go.Ground.phase }, { on := 7, ground := Go.Ground.phase }, { on := 8, ground := Go.Ground.phase }, { on := 9, ground := Go.Ground.phase }, { on := 10, ground := Go.Ground.phase }, { on := 11, ground := Go.Ground.phase }, { on := 12, ground := Go.Ground.phase }, { on := 13, ground := Go.Ground.phase }, { on := 14, ground := Go.Ground.phase }, { on := 15, ground := Go.Ground.phase }, { on := 16, ground := Go.Ground.phase }, { on := 17, ground := Go.Ground.phase }, { on := 18, ground := Go.Ground.phase }, { on := 19, ground := Go.Ground.phase }, { on := 20, ground := Go.Ground.phase }, { on := 21, ground := Go.Ground.phase }, { on := 22, ground := Go.Ground.phase }, { on := 23, ground := Go.Ground.phase }, { on := 24, ground := Go.Ground.phase }, { on := 25, ground := Go.Ground.phase }, { on := 26, ground := Go.Ground.phase }, { on := 27, ground := Go.Ground.phase }, { on := 28, ground := Go.Ground.phase }, { on := 29, ground := Go.Ground.phase }, { on := 30, ground := Go.Ground.phase }, { on := 31, ground := Go.Ground.phase }, { on := 32, ground := Go.Ground.phase }, { on := 33, ground := Go.Ground.phase }, { on := 34, ground := Go.Ground.phase }, { on := 35, ground := Go.Ground.phase }], guard := none }) (v := .bool true) rfl (by kernel_rfl) (by kernel_rfl) (by kernel_rfl) (fun _ _ _ h => h) (Or.inl ⟨by rfl, ?_⟩) H15.out ?_
          · intro w' hSw; clear hSw; go_simp
          try simp only [Act.put, List.setIfInBounds_toArray, List.set_cons_zero]
          refine wpAnyH_done (by kernel_rfl) ?_ _
          refine NoPanic.normal ?_
          have bz := B15.out
          go_wp2_with (fail)
          go_ret
          exact ⟨rfl, bz⟩
        refine AllReadyH.cons (o := { dst := some 30, op := Go.Op.convert 24 24 (Go.Operand.tmp 29), type := 24, pos := "law.go:12", after := #[{ on := 26, ground := Go.Ground.data }, { on := 20, ground := Go.Ground.guard }], guard := some (20, true) }) rfl (fun K hK => ?_) ?_
        · skip
          obtain ⟨W16, r16, n16, x16, y16⟩ := conv_mark (n := 5) (c := 5) N11x11.out
          have h16 : Whole W16 g 23 (arrV tabN) := H11.out.same (y16 g (by omega))
          have b16 : Below w.heap.size w W16 := B11.out.trans (x16.mono (by omega))
          have mword416 := MWORD411x11.out.same (y16 i4 (by omega))
          clear x16 y16
          have N16 := Lib.hid n16
          go_simp
          refine hK.out _ _ h16 (fun _ => ?_)
          clear hK K r16 N16
          try simp only [Act.put, List.setIfInBounds_toArray, List.set_cons_zero, List.set_cons_succ]
          have B16 := Lib.hid b16
          have H16 := Lib.hid h16
          clear b16 h16
          have MWORD416x16 := Lib.hid mword416
          clear mword416
          have N16x16 := Lib.hid n16
          clear n16
          refine wpAnyH_ready (rs := [25]) (by kernel_rfl) (by simp) ?_
          refine AllReadyH.cons (o := { dst := some 28, op := Go.Op.call { callee := Go.Callee.value (Go.Operand.func 14), args := #[Go.Operand.tmp 25, Go.Operand.tmp 27], argTypes := #[23, 24] }, type := 22, pos := "law.go:12", after := #[{ on := 22, ground := Go.Ground.data }, { on := 24, ground := Go.Ground.data }, { on := 20, ground := Go.Ground.chain }, { on := 20, ground := Go.Ground.guard }], guard := some (20, true) }) rfl (fun K hK => ?_) AllReadyH.nil
          go_simp
          refine (of_any tabN tabN_all _ 4 4 word4 _ (MWORD416x16.out.bytes word4 rfl rfl) (by simp [maxLen])).mono ?_
          rintro e W17 ⟨rfl, a17⟩
          have A17 := Lib.hid a17
          clear a17
          go_wp2_with (fail)
          have h17 : Whole W17 g 23 (arrV tabN) := H16.out.after' A17.out
          have b17 : Below w.heap.size w W17 := B16.out.trans (A17.out.mono B16.out.size)
          have mword517 := N16x16.out.after' A17.out
          refine hK.out _ _ h17 (fun _ => ?_)
          clear hK K A17
          try simp only [Act.put, List.setIfInBounds_toArray, List.set_cons_zero, List.set_cons_succ]
          have B17 := Lib.hid b17
          have H17 := Lib.hid h17
          clear b17 h17
          have MWORD517x17 := Lib.hid mword517
          clear mword517
          refine wpAnyH_ready (rs := [28]) (by kernel_rfl) (by simp) ?_
          refine AllReadyH.cons (o := { dst := some 31, op := Go.Op.call { callee := Go.Callee.value (Go.Operand.func 12), args := #[Go.Operand.tmp 24, Go.Operand.tmp 28, Go.Operand.tmp 30], argTypes := #[23, 22, 24] }, type := 22, pos := "law.go:12", after := #[{ on := 21, ground := Go.Ground.data }, { on := 25, ground := Go.Ground.data }, { on := 27, ground := Go.Ground.data }, { on := 25, ground := Go.Ground.chain }, { on := 20, ground := Go.Ground.guard }], guard := some (20, true) }) rfl (fun K hK => ?_) AllReadyH.nil
          go_simp
          refine (on_any tabN tabN_all (onN tabN 0 word4) (onN_lt _ _ _) _ 5 5 word5 _ (MWORD517x17.out.bytes word5 rfl rfl) (by simp [maxLen])).mono ?_
          rintro e W18 ⟨rfl, a18⟩
          have A18 := Lib.hid a18
          clear a18
          go_wp2_with (fail)
          have h18 : Whole W18 g 23 (arrV tabN) := H17.out.after' A18.out
          have b18 : Below w.heap.size w W18 := B17.out.trans (A18.out.mono B17.out.size)
          refine hK.out _ _ h18 (fun _ => ?_)
          clear hK K A18
          try simp only [Act.put, List.setIfInBounds_toArray, List.set_cons_zero, List.set_cons_succ]
          have B18 := Lib.hid b18
          have H18 := Lib.hid h18
          clear b18 h18
          refine wpAnyH_take (i := 29) (oi := { dst := some 32, op := Go.Op.binOp Go.BinOp.eql 22 (Go.Operand.tmp 31) (Go.Operand.const (Go.Value.int Go.IntKind.u32 3808858755)) 22, type := 4, pos := "law.go:12", after := #[{ on := 28, ground := Go.Ground.data }, { on := 20, ground := Go.Ground.guard }], guard := some (20, true) }) (v := .bool true) rfl (by kernel_rfl) (by kernel_rfl) (by kernel_rfl) (fun _ _ _ h => h) (Or.inl ⟨by rfl, ?_⟩) H18.out ?_
          · intro w' hSw; clear hSw; go_simp
          try simp only [Act.put, List.setIfInBounds_toArray, List.set_cons_zero, List.set_cons_succ]
          refine wpAnyH_take (i := 30) (oi := { dst := some 33, op := Go.Op.pick (Go.Operand.tmp 23) (Go.Operand.tmp 32) (Go.Operand.const (Go.Value.bool false)), type := 4, pos := "law.go:12", after := #[{ on := 20, ground := Go.Ground.data }, { on := 29, ground := Go.Ground.data }], guard := none }) (v := .bool true) rfl (by kernel_rfl) (by kernel_rfl) (by kernel_rfl) (fun _ _ _ h => h) (Or.inl ⟨by rfl, ?_⟩) H18.out ?_
          · intro w' hSw; clear hSw; go_simp
          try simp only [Act.put, List.setIfInBounds_toArray, List.set_cons_zero, List.set_cons_succ]
          refine wpAnyH_take (i := 31) (oi := { dst := some 34, op := Go.Op.move (Go.Operand.tmp 33), type := 4, pos := "law.go:12", after := #[{ on := 30, ground := Go.Ground.data }, { on := 28, ground := Go.Ground.chain }], guard := none }) (v := .bool true) rfl (by kernel_rfl) (by kernel_rfl) (by kernel_rfl) (fun _ _ _ h => h) (Or.inl ⟨by rfl, ?_⟩) H18.out ?_
          · intro w' hSw; clear hSw; go_simp
          try simp only [Act.put, List.setIfInBounds_toArray, List.set_cons_zero, List.set_cons_succ]
          refine wpAnyH_take (i := 32) (oi := { dst := some 35, op := Go.Op.load 23 (Go.Operand.tmp 1), type := 23, pos := "law.go:12", after := #[{ on := 31, ground := Go.Ground.guard }], guard := some (31, true) }) (v := .agg (arrV tabN)) rfl (by kernel_rfl) (by kernel_rfl) (by kernel_rfl) (fun _ _ _ h => h) (take_whole (by rfl) 23 _ rfl g rfl 23 (arrV tabN) _ (fun _ h => h) Try.underlying23 rfl (by rw [arrV_size]; exact sizeT)) H18.out ?_
          try simp only [Act.put, List.setIfInBounds_toArray, List.set_cons_zero, List.set_cons_succ]
          refine wpAnyH_ready (rs := [33]) (by kernel_rfl) (by simp) ?_
          refine AllReadyH.cons (o := { dst := some 36, op := Go.Op.call { callee := Go.Callee.value (Go.Operand.func 14), args := #[Go.Operand.tmp 35, Go.Operand.const (Go.Value.slice none 0 0)], argTypes := #[23, 24] }, type := 22, pos := "law.go:12", after := #[{ on := 32, ground := Go.Ground.data }, { on := 31, ground := Go.Ground.chain }, { on := 31, ground := Go.Ground.guard }], guard := some (31, true) }) rfl (fun K hK => ?_) AllReadyH.nil
          go_simp
          refine (of_any tabN tabN_all none 0 0 [] _ (Bytes.nil _ _ _) (by simp [maxLen])).mono ?_
          rintro e W19 ⟨rfl, a19⟩
          have A19 := Lib.hid a19
          clear a19
          go_wp2_with (fail)
          have h19 : Whole W19 g 23 (arrV tabN) := H18.out.after' A19.out
          have b19 : Below w.heap.size w W19 := B18.out.trans (A19.out.mono B18.out.size)
          refine hK.out _ _ h19 (fun _ => ?_)
          clear hK K A19
          try simp only [Act.put, List.setIfInBounds_toArray, List.set_cons_zero, List.set_cons_succ]
          have B19 := Lib.hid b19
          have H19 := Lib.hid h19
          clear b19 h19
          refine wpAnyH_take (i := 34) (oi := { dst := some 37, op := Go.Op.binOp Go.BinOp.eql 22 (Go.Operand.tmp 36) (Go.Operand.const (Go.Value.int Go.IntKind.u32 0)) 22, type := 4, pos := "law.go:12", after := #[{ on := 33, ground := Go.Ground.data }, { on := 31, ground := Go.Ground.guard }], guard := some (31, true) }) (v := .bool true) rfl (by kernel_rfl) (by kernel_rfl) (by kernel_rfl) (fun _ _ _ h => h) (Or.inl ⟨by rfl, ?_⟩) H19.out ?_
          · intro w' hSw; clear hSw; go_simp
          try simp only [Act.put, List.setIfInBounds_toArray, List.set_cons_zero, List.set_cons_succ]
          refine wpAnyH_take (i := 35) (oi := { dst := some 38, op := Go.Op.pick (Go.Operand.tmp 34) (Go.Operand.tmp 37) (Go.Operand.const (Go.Value.bool false)), type := 4, pos := "law.go:12", after := #[{ on := 31, ground := Go.Ground.data }, { on := 34, ground := Go.Ground.data }], guard := none }) (v := .bool true) rfl (by kernel_rfl) (by kernel_rfl) (by kernel_rfl) (fun _ _ _ h => h) (Or.inl ⟨by rfl, ?_⟩) H19.out ?_
          · intro w' hSw; clear hSw; go_simp
          try simp only [Act.put, List.setIfInBounds_toArray, List.set_cons_zero, List.set_cons_succ]
          refine wpAnyH_take (i := 36) (oi := { dst := some 0, op := Go.Op.assign (Go.Operand.tmp 38), type := 4, pos := "law.go:12", after := #[{ on := 35, ground := Go.Ground.data }, { on := 33, ground := Go.Ground.chain }, { on := 0, ground := Go.Ground.phase }, { on := 1, ground := Go.Ground.phase }, { on := 2, ground := Go.Ground.phase }, { on := 3, ground := Go.Ground.phase }, { on := 4, ground := Go.Ground.phase }, { on := 5, ground := Go.Ground.phase }, { on := 6, ground := Go.Ground.phase }, { on := 7, ground := Go.Ground.phase }, { on := 8, ground := Go.Ground.phase }, { on := 9, ground := Go.Ground.phase }, { on := 10, ground := Go.Ground.phase }, { on := 11, ground := Go.Ground.phase }, { on := 12, ground := Go.Ground.phase }, { on := 13, ground := Go.Ground.phase }, { on := 14, ground := Go.Ground.phase }, { on := 15, ground := Go.Ground.phase }, { on := 16, ground := Go.Ground.phase }, { on := 17, ground := Go.Ground.phase }, { on := 18, ground := Go.Ground.phase }, { on := 19, ground := Go.Ground.phase }, { on := 20, ground := Go.Ground.phase }, { on := 21, ground := Go.Ground.phase }, { on := 22, ground := Go.Ground.phase }, { on := 23, ground := Go.Ground.phase }, { on := 24, ground := Go.Ground.phase }, { on := 25, ground := Go.Ground.phase }, { on := 26, ground := Go.Ground.phase }, { on := 27, ground := Go.Ground.phase }, { on := 28, ground := Go.Ground.phase }, { on := 29, ground := Go.Ground.phase }, { on := 30, ground := Go.Ground.phase }, { on := 31, ground := Go.Ground.phase }, { on := 32, ground := Go.Ground.phase }, { on := 33, ground := Go.Ground.phase }, { on := 34, ground := Go.Ground.phase }, { on := 35, ground := Go.Ground.phase }], guard := none }) (v := .bool true) rfl (by kernel_rfl) (by kernel_rfl) (by kernel_rfl) (fun _ _ _ h => h) (Or.inl ⟨by rfl, ?_⟩) H19.out ?_
          · intro w' hSw; clear hSw; go_simp
          try simp only [Act.put, List.setIfInBounds_toArray, List.set_cons_zero]
          refine wpAnyH_done (by kernel_rfl) ?_ _
          refine NoPanic.normal ?_
          have bz := B19.out
          go_wp2_with (fail)
          go_ret
          exact ⟨rfl, bz⟩
        exact AllReadyH.nil
      exact AllReadyH.nil
    refine AllReadyH.cons (o := { dst := some 29, op := Go.Op.buildSlice 24 5 #[(0, Go.Operand.const (Go.Value.int Go.IntKind.u8 53)), (1, Go.Operand.const (Go.Value.int Go.IntKind.u8 54)), (2, Go.Operand.const (Go.Value.int Go.IntKind.u8 55)), (3, Go.Operand.const (Go.Value.int Go.IntKind.u8 56)), (4, Go.Operand.const (Go.Value.int Go.IntKind.u8 57))], type := 24, pos := "law.go:12", after := #[{ on := 20, ground := Go.Ground.guard }], guard := some (20, true) }) rfl (fun K hK => ?_) ?_
    · skip
      go_simp
      have n20 : Whole (W4.alloc (.cells #[.int .u8 53, .int .u8 54, .int .u8 55, .int .u8 56, .int .u8 57] 5)) W4.heap.size 5 #[.int .u8 53, .int .u8 54, .int .u8 55, .int .u8 56, .int .u8 57] := Whole.made W4 _ _
      have b20 : Below w.heap.size w (W4.alloc (.cells #[.int .u8 53, .int .u8 54, .int .u8 55, .int .u8 56, .int .u8 57] 5)) := B4.out.alloc B4.out.size _
      have h20 : Whole (W4.alloc (.cells #[.int .u8 53, .int .u8 54, .int .u8 55, .int .u8 56, .int .u8 57] 5)) g 23 (arrV tabN) := H4.out.alloc _
      have g20 : g < W4.heap.size := H4.out.lt
      have mword420 := N4x4.out.alloc (.cells #[.int .u8 53, .int .u8 54, .int .u8 55, .int .u8 56, .int .u8 57] 5)
      have lword420 : i4 < W4.heap.size := N4x4.out.lt
      refine hK.out _ _ h20 (fun _ => ?_)
      clear hK K
      try simp only [Act.put, List.setIfInBounds_toArray, List.set_cons_zero, List.set_cons_succ]
      generalize W4.alloc (.cells #[.int .u8 53, .int .u8 54, .int .u8 55, .int .u8 56, .int .u8 57] 5) = W20 at *
      generalize W4.heap.size = i20 at *
      have B20 := Lib.hid b20
      have H20 := Lib.hid h20
      clear b20 h20
      have MWORD420x20 := Lib.hid mword420
      clear mword420
      have N20x20 := Lib.hid n20
      clear n20
      refine wpAnyH_ready (rs := [24, 27]) (by kernel_rfl) (by simp) ?_
      refine AllReadyH.cons (o := { dst := some 27, op := Go.Op.convert 24 24 (Go.Operand.tmp 26), type := 24, pos := "law.go:12", after := #[{ on := 23, ground := Go.Ground.data }, { on := 20, ground := Go.Ground.guard }], guard := some (20, true) }) rfl (fun K hK => ?_) ?_
      · skip
        obtain ⟨W21, r21, n21, x21, y21⟩ := conv_mark (n := 4) (c := 4) MWORD420x20.out
        have h21 : Whole W21 g 23 (arrV tabN) := H20.out.same (y21 g (by omega))
        have b21 : Below w.heap.size w W21 := B20.out.trans (x21.mono (by omega))
        have mword521 := N20x20.out.same (y21 i20 (by omega))
        clear x21 y21
        have N21 := Lib.hid n21
        go_simp
        refine hK.out _ _ h21 (fun _ => ?_)
        clear hK K r21 N21
        try simp only [Act.put, List.setIfInBounds_toArray, List.set_cons_zero, List.set_cons_succ]
        have B21 := Lib.hid b21
        have H21 := Lib.hid h21
        clear b21 h21
        have MWORD521x21 := Lib.hid mword521
        clear mword521
        have N21x21 := Lib.hid n21
        clear n21
        refine wpAnyH_ready (rs := [25, 27]) (by kernel_rfl) (by simp) ?_
        refine AllReadyH.cons (o := { dst := some 28, op := Go.Op.call { callee := Go.Callee.value (Go.Operand.func 14), args := #[Go.Operand.tmp 25, Go.Operand.tmp 27], argTypes := #[23, 24] }, type := 22, pos := "law.go:12", after := #[{ on := 22, ground := Go.Ground.data }, { on := 24, ground := Go.Ground.data }, { on := 20, ground := Go.Ground.chain }, { on := 20, ground := Go.Ground.guard }], guard := some (20, true) }) rfl (fun K hK => ?_) ?_
        · skip
          go_simp
          refine (of_any tabN tabN_all _ 4 4 word4 _ (N21x21.out.bytes word4 rfl rfl) (by simp [maxLen])).mono ?_
          rintro e W22 ⟨rfl, a22⟩
          have A22 := Lib.hid a22
          clear a22
          go_wp2_with (fail)
          have h22 : Whole W22 g 23 (arrV tabN) := H21.out.after' A22.out
          have b22 : Below w.heap.size w W22 := B21.out.trans (A22.out.mono B21.out.size)
          have mword522 := MWORD521x21.out.after' A22.out
          refine hK.out _ _ h22 (fun _ => ?_)
          clear hK K A22
          try simp only [Act.put, List.setIfInBounds_toArray, List.set_cons_zero, List.set_cons_succ]
          have B22 := Lib.hid b22
          have H22 := Lib.hid h22
          clear b22 h22
          have MWORD522x22 := Lib.hid mword522
          clear mword522
          refine wpAnyH_ready (rs := [27]) (by kernel_rfl) (by simp) ?_
          refine AllReadyH.cons (o := { dst := some 30, op := Go.Op.convert 24 24 (Go.Operand.tmp 29), type := 24, pos := "law.go:12", after := #[{ on := 26, ground := Go.Ground.data }, { on := 20, ground := Go.Ground.guard }], guard := some (20, true) }) rfl (fun K hK => ?_) AllReadyH.nil
          obtain ⟨W23, r23, n23, x23, y23⟩ := conv_mark (n := 5) (c := 5) MWORD522x22.out
          have h23 : Whole W23 g 23 (arrV tabN) := H22.out.same (y23 g (by omega))
          have b23 : Below w.heap.size w W23 := B22.out.trans (x23.mono (by omega))
          clear x23 y23
          have N23 := Lib.hid n23
          go_simp
          refine hK.out _ _ h23 (fun _ => ?_)
          clear hK K r23 N23
          try simp only [Act.put, List.setIfInBounds_toArray, List.set_cons_zero, List.set_cons_succ]
          have B23 := Lib.hid b23
          have H23 := Lib.hid h23
          clear b23 h23
          have N23x23 := Lib.hid n23
          clear n23
          refine wpAnyH_ready (rs := [28]) (by kernel_rfl) (by simp) ?_
          refine AllReadyH.cons (o := { dst := some 31, op := Go.Op.call { callee := Go.Callee.value (Go.Operand.func 12), args := #[Go.Operand.tmp 24, Go.Operand.tmp 28, Go.Operand.tmp 30], argTypes := #[23, 22, 24] }, type := 22, pos := "law.go:12", after := #[{ on := 21, ground := Go.Ground.data }, { on := 25, ground := Go.Ground.data }, { on := 27, ground := Go.Ground.data }, { on := 25, ground := Go.Ground.chain }, { on := 20, ground := Go.Ground.guard }], guard := some (20, true) }) rfl (fun K hK => ?_) AllReadyH.nil
          go_simp
          refine (on_any tabN tabN_all (onN tabN 0 word4) (onN_lt _ _ _) _ 5 5 word5 _ (N23x23.out.bytes word5 rfl rfl) (by simp [maxLen])).mono ?_
          rintro e W24 ⟨rfl, a24⟩
          have A24 := Lib.hid a24
          clear a24
          go_wp2_with (fail)
          have h24 : Whole W24 g 23 (arrV tabN) := H23.out.after' A24.out
          have b24 : Below w.heap.size w W24 := B23.out.trans (A24.out.mono B23.out.size)
          refine hK.out _ _ h24 (fun _ => ?_)
          clear hK K A24
          try simp only [Act.put, List.setIfInBounds_toArray, List.set_cons_zero, List.set_cons_succ]
          have B24 := Lib.hid b24
          have H24 := Lib.hid h24
          clear b24 h24
          refine wpAnyH_take (i := 29) (oi := { dst := some 32, op := Go.Op.binOp Go.BinOp.eql 22 (Go.Operand.tmp 31) (Go.Operand.const (Go.Value.int Go.IntKind.u32 3808858755)) 22, type := 4, pos := "law.go:12", after := #[{ on := 28, ground := Go.Ground.data }, { on := 20, ground := Go.Ground.guard }], guard := some (20, true) }) (v := .bool true) rfl (by kernel_rfl) (by kernel_rfl) (by kernel_rfl) (fun _ _ _ h => h) (Or.inl ⟨by rfl, ?_⟩) H24.out ?_
          · intro w' hSw; clear hSw; go_simp
          try simp only [Act.put, List.setIfInBounds_toArray, List.set_cons_zero, List.set_cons_succ]
          refine wpAnyH_take (i := 30) (oi := { dst := some 33, op := Go.Op.pick (Go.Operand.tmp 23) (Go.Operand.tmp 32) (Go.Operand.const (Go.Value.bool false)), type := 4, pos := "law.go:12", after := #[{ on := 20, ground := Go.Ground.data }, { on := 29, ground := Go.Ground.data }], guard := none }) (v := .bool true) rfl (by kernel_rfl) (by kernel_rfl) (by kernel_rfl) (fun _ _ _ h => h) (Or.inl ⟨by rfl, ?_⟩) H24.out ?_
          · intro w' hSw; clear hSw; go_simp
          try simp only [Act.put, List.setIfInBounds_toArray, List.set_cons_zero, List.set_cons_succ]
          refine wpAnyH_take (i := 31) (oi := { dst := some 34, op := Go.Op.move (Go.Operand.tmp 33), type := 4, pos := "law.go:12", after := #[{ on := 30, ground := Go.Ground.data }, { on := 28, ground := Go.Ground.chain }], guard := none }) (v := .bool true) rfl (by kernel_rfl) (by kernel_rfl) (by kernel_rfl) (fun _ _ _ h => h) (Or.inl ⟨by rfl, ?_⟩) H24.out ?_
          · intro w' hSw; clear hSw; go_simp
          try simp only [Act.put, List.setIfInBounds_toArray, List.set_cons_zero, List.set_cons_succ]
          refine wpAnyH_take (i := 32) (oi := { dst := some 35, op := Go.Op.load 23 (Go.Operand.tmp 1), type := 23, pos := "law.go:12", after := #[{ on := 31, ground := Go.Ground.guard }], guard := some (31, true) }) (v := .agg (arrV tabN)) rfl (by kernel_rfl) (by kernel_rfl) (by kernel_rfl) (fun _ _ _ h => h) (take_whole (by rfl) 23 _ rfl g rfl 23 (arrV tabN) _ (fun _ h => h) Try.underlying23 rfl (by rw [arrV_size]; exact sizeT)) H24.out ?_
          try simp only [Act.put, List.setIfInBounds_toArray, List.set_cons_zero, List.set_cons_succ]
          refine wpAnyH_ready (rs := [33]) (by kernel_rfl) (by simp) ?_
          refine AllReadyH.cons (o := { dst := some 36, op := Go.Op.call { callee := Go.Callee.value (Go.Operand.func 14), args := #[Go.Operand.tmp 35, Go.Operand.const (Go.Value.slice none 0 0)], argTypes := #[23, 24] }, type := 22, pos := "law.go:12", after := #[{ on := 32, ground := Go.Ground.data }, { on := 31, ground := Go.Ground.chain }, { on := 31, ground := Go.Ground.guard }], guard := some (31, true) }) rfl (fun K hK => ?_) AllReadyH.nil
          go_simp
          refine (of_any tabN tabN_all none 0 0 [] _ (Bytes.nil _ _ _) (by simp [maxLen])).mono ?_
          rintro e W25 ⟨rfl, a25⟩
          have A25 := Lib.hid a25
          clear a25
          go_wp2_with (fail)
          have h25 : Whole W25 g 23 (arrV tabN) := H24.out.after' A25.out
          have b25 : Below w.heap.size w W25 := B24.out.trans (A25.out.mono B24.out.size)
          refine hK.out _ _ h25 (fun _ => ?_)
          clear hK K A25
          try simp only [Act.put, List.setIfInBounds_toArray, List.set_cons_zero, List.set_cons_succ]
          have B25 := Lib.hid b25
          have H25 := Lib.hid h25
          clear b25 h25
          refine wpAnyH_take (i := 34) (oi := { dst := some 37, op := Go.Op.binOp Go.BinOp.eql 22 (Go.Operand.tmp 36) (Go.Operand.const (Go.Value.int Go.IntKind.u32 0)) 22, type := 4, pos := "law.go:12", after := #[{ on := 33, ground := Go.Ground.data }, { on := 31, ground := Go.Ground.guard }], guard := some (31, true) }) (v := .bool true) rfl (by kernel_rfl) (by kernel_rfl) (by kernel_rfl) (fun _ _ _ h => h) (Or.inl ⟨by rfl, ?_⟩) H25.out ?_
          · intro w' hSw; clear hSw; go_simp
          try simp only [Act.put, List.setIfInBounds_toArray, List.set_cons_zero, List.set_cons_succ]
          refine wpAnyH_take (i := 35) (oi := { dst := some 38, op := Go.Op.pick (Go.Operand.tmp 34) (Go.Operand.tmp 37) (Go.Operand.const (Go.Value.bool false)), type := 4, pos := "law.go:12", after := #[{ on := 31, ground := Go.Ground.data }, { on := 34, ground := Go.Ground.data }], guard := none }) (v := .bool true) rfl (by kernel_rfl) (by kernel_rfl) (by kernel_rfl) (fun _ _ _ h => h) (Or.inl ⟨by rfl, ?_⟩) H25.out ?_
          · intro w' hSw; clear hSw; go_simp
          try simp only [Act.put, List.setIfInBounds_toArray, List.set_cons_zero, List.set_cons_succ]
          refine wpAnyH_take (i := 36) (oi := { dst := some 0, op := Go.Op.assign (Go.Operand.tmp 38), type := 4, pos := "law.go:12", after := #[{ on := 35, ground := Go.Ground.data }, { on := 33, ground := Go.Ground.chain }, { on := 0, ground := Go.Ground.phase }, { on := 1, ground := Go.Ground.phase }, { on := 2, ground := Go.Ground.phase }, { on := 3, ground := Go.Ground.phase }, { on := 4, ground := Go.Ground.phase }, { on := 5, ground := Go.Ground.phase }, { on := 6, ground := Go.Ground.phase }, { on := 7, ground := Go.Ground.phase }, { on := 8, ground := Go.Ground.phase }, { on := 9, ground := Go.Ground.phase }, { on := 10, ground := Go.Ground.phase }, { on := 11, ground := Go.Ground.phase }, { on := 12, ground := Go.Ground.phase }, { on := 13, ground := Go.Ground.phase }, { on := 14, ground := Go.Ground.phase }, { on := 15, ground := Go.Ground.phase }, { on := 16, ground := Go.Ground.phase }, { on := 17, ground := Go.Ground.phase }, { on := 18, ground := Go.Ground.phase }, { on := 19, ground := Go.Ground.phase }, { on := 20, ground := Go.Ground.phase }, { on := 21, ground := Go.Ground.phase }, { on := 22, ground := Go.Ground.phase }, { on := 23, ground := Go.Ground.phase }, { on := 24, ground := Go.Ground.phase }, { on := 25, ground := Go.Ground.phase }, { on := 26, ground := Go.Ground.phase }, { on := 27, ground := Go.Ground.phase }, { on := 28, ground := Go.Ground.phase }, { on := 29, ground := Go.Ground.phase }, { on := 30, ground := Go.Ground.phase }, { on := 31, ground := Go.Ground.phase }, { on := 32, ground := Go.Ground.phase }, { on := 33, ground := Go.Ground.phase }, { on := 34, ground := Go.Ground.phase }, { on := 35, ground := Go.Ground.phase }], guard := none }) (v := .bool true) rfl (by kernel_rfl) (by kernel_rfl) (by kernel_rfl) (fun _ _ _ h => h) (Or.inl ⟨by rfl, ?_⟩) H25.out ?_
          · intro w' hSw; clear hSw; go_simp
          try simp only [Act.put, List.setIfInBounds_toArray, List.set_cons_zero]
          refine wpAnyH_done (by kernel_rfl) ?_ _
          refine NoPanic.normal ?_
          have bz := B25.out
          go_wp2_with (fail)
          go_ret
          exact ⟨rfl, bz⟩
        refine AllReadyH.cons (o := { dst := some 30, op := Go.Op.convert 24 24 (Go.Operand.tmp 29), type := 24, pos := "law.go:12", after := #[{ on := 26, ground := Go.Ground.data }, { on := 20, ground := Go.Ground.guard }], guard := some (20, true) }) rfl (fun K hK => ?_) ?_
        · skip
          obtain ⟨W26, r26, n26, x26, y26⟩ := conv_mark (n := 5) (c := 5) MWORD521x21.out
          have h26 : Whole W26 g 23 (arrV tabN) := H21.out.same (y26 g (by omega))
          have b26 : Below w.heap.size w W26 := B21.out.trans (x26.mono (by omega))
          have mword426 := N21x21.out.same (y26 i4 (by omega))
          clear x26 y26
          have N26 := Lib.hid n26
          go_simp
          refine hK.out _ _ h26 (fun _ => ?_)
          clear hK K r26 N26
          try simp only [Act.put, List.setIfInBounds_toArray, List.set_cons_zero, List.set_cons_succ]
          have B26 := Lib.hid b26
          have H26 := Lib.hid h26
          clear b26 h26
          have MWORD426x26 := Lib.hid mword426
          clear mword426
          have N26x26 := Lib.hid n26
          clear n26
          refine wpAnyH_ready (rs := [25]) (by kernel_rfl) (by simp) ?_
          refine AllReadyH.cons (o := { dst := some 28, op := Go.Op.call { callee := Go.Callee.value (Go.Operand.func 14), args := #[Go.Operand.tmp 25, Go.Operand.tmp 27], argTypes := #[23, 24] }, type := 22, pos := "law.go:12", after := #[{ on := 22, ground := Go.Ground.data }, { on := 24, ground := Go.Ground.data }, { on := 20, ground := Go.Ground.chain }, { on := 20, ground := Go.Ground.guard }], guard := some (20, true) }) rfl (fun K hK => ?_) AllReadyH.nil
          go_simp
          refine (of_any tabN tabN_all _ 4 4 word4 _ (MWORD426x26.out.bytes word4 rfl rfl) (by simp [maxLen])).mono ?_
          rintro e W27 ⟨rfl, a27⟩
          have A27 := Lib.hid a27
          clear a27
          go_wp2_with (fail)
          have h27 : Whole W27 g 23 (arrV tabN) := H26.out.after' A27.out
          have b27 : Below w.heap.size w W27 := B26.out.trans (A27.out.mono B26.out.size)
          have mword527 := N26x26.out.after' A27.out
          refine hK.out _ _ h27 (fun _ => ?_)
          clear hK K A27
          try simp only [Act.put, List.setIfInBounds_toArray, List.set_cons_zero, List.set_cons_succ]
          have B27 := Lib.hid b27
          have H27 := Lib.hid h27
          clear b27 h27
          have MWORD527x27 := Lib.hid mword527
          clear mword527
          refine wpAnyH_ready (rs := [28]) (by kernel_rfl) (by simp) ?_
          refine AllReadyH.cons (o := { dst := some 31, op := Go.Op.call { callee := Go.Callee.value (Go.Operand.func 12), args := #[Go.Operand.tmp 24, Go.Operand.tmp 28, Go.Operand.tmp 30], argTypes := #[23, 22, 24] }, type := 22, pos := "law.go:12", after := #[{ on := 21, ground := Go.Ground.data }, { on := 25, ground := Go.Ground.data }, { on := 27, ground := Go.Ground.data }, { on := 25, ground := Go.Ground.chain }, { on := 20, ground := Go.Ground.guard }], guard := some (20, true) }) rfl (fun K hK => ?_) AllReadyH.nil
          go_simp
          refine (on_any tabN tabN_all (onN tabN 0 word4) (onN_lt _ _ _) _ 5 5 word5 _ (MWORD527x27.out.bytes word5 rfl rfl) (by simp [maxLen])).mono ?_
          rintro e W28 ⟨rfl, a28⟩
          have A28 := Lib.hid a28
          clear a28
          go_wp2_with (fail)
          have h28 : Whole W28 g 23 (arrV tabN) := H27.out.after' A28.out
          have b28 : Below w.heap.size w W28 := B27.out.trans (A28.out.mono B27.out.size)
          refine hK.out _ _ h28 (fun _ => ?_)
          clear hK K A28
          try simp only [Act.put, List.setIfInBounds_toArray, List.set_cons_zero, List.set_cons_succ]
          have B28 := Lib.hid b28
          have H28 := Lib.hid h28
          clear b28 h28
          refine wpAnyH_take (i := 29) (oi := { dst := some 32, op := Go.Op.binOp Go.BinOp.eql 22 (Go.Operand.tmp 31) (Go.Operand.const (Go.Value.int Go.IntKind.u32 3808858755)) 22, type := 4, pos := "law.go:12", after := #[{ on := 28, ground := Go.Ground.data }, { on := 20, ground := Go.Ground.guard }], guard := some (20, true) }) (v := .bool true) rfl (by kernel_rfl) (by kernel_rfl) (by kernel_rfl) (fun _ _ _ h => h) (Or.inl ⟨by rfl, ?_⟩) H28.out ?_
          · intro w' hSw; clear hSw; go_simp
          try simp only [Act.put, List.setIfInBounds_toArray, List.set_cons_zero, List.set_cons_succ]
          refine wpAnyH_take (i := 30) (oi := { dst := some 33, op := Go.Op.pick (Go.Operand.tmp 23) (Go.Operand.tmp 32) (Go.Operand.const (Go.Value.bool false)), type := 4, pos := "law.go:12", after := #[{ on := 20, ground := Go.Ground.data }, { on := 29, ground := Go.Ground.data }], guard := none }) (v := .bool true) rfl (by kernel_rfl) (by kernel_rfl) (by kernel_rfl) (fun _ _ _ h => h) (Or.inl ⟨by rfl, ?_⟩) H28.out ?_
          · intro w' hSw; clear hSw; go_simp
          try simp only [Act.put, List.setIfInBounds_toArray, List.set_cons_zero, List.set_cons_succ]
          refine wpAnyH_take (i := 31) (oi := { dst := some 34, op := Go.Op.move (Go.Operand.tmp 33), type := 4, pos := "law.go:12", after := #[{ on := 30, ground := Go.Ground.data }, { on := 28, ground := Go.Ground.chain }], guard := none }) (v := .bool true) rfl (by kernel_rfl) (by kernel_rfl) (by kernel_rfl) (fun _ _ _ h => h) (Or.inl ⟨by rfl, ?_⟩) H28.out ?_
          · intro w' hSw; clear hSw; go_simp
          try simp only [Act.put, List.setIfInBounds_toArray, List.set_cons_zero, List.set_cons_succ]
          refine wpAnyH_take (i := 32) (oi := { dst := some 35, op := Go.Op.load 23 (Go.Operand.tmp 1), type := 23, pos := "law.go:12", after := #[{ on := 31, ground := Go.Ground.guard }], guard := some (31, true) }) (v := .agg (arrV tabN)) rfl (by kernel_rfl) (by kernel_rfl) (by kernel_rfl) (fun _ _ _ h => h) (take_whole (by rfl) 23 _ rfl g rfl 23 (arrV tabN) _ (fun _ h => h) Try.underlying23 rfl (by rw [arrV_size]; exact sizeT)) H28.out ?_
          try simp only [Act.put, List.setIfInBounds_toArray, List.set_cons_zero, List.set_cons_succ]
          refine wpAnyH_ready (rs := [33]) (by kernel_rfl) (by simp) ?_
          refine AllReadyH.cons (o := { dst := some 36, op := Go.Op.call { callee := Go.Callee.value (Go.Operand.func 14), args := #[Go.Operand.tmp 35, Go.Operand.const (Go.Value.slice none 0 0)], argTypes := #[23, 24] }, type := 22, pos := "law.go:12", after := #[{ on := 32, ground := Go.Ground.data }, { on := 31, ground := Go.Ground.chain }, { on := 31, ground := Go.Ground.guard }], guard := some (31, true) }) rfl (fun K hK => ?_) AllReadyH.nil
          go_simp
          refine (of_any tabN tabN_all none 0 0 [] _ (Bytes.nil _ _ _) (by simp [maxLen])).mono ?_
          rintro e W29 ⟨rfl, a29⟩
          have A29 := Lib.hid a29
          clear a29
          go_wp2_with (fail)
          have h29 : Whole W29 g 23 (arrV tabN) := H28.out.after' A29.out
          have b29 : Below w.heap.size w W29 := B28.out.trans (A29.out.mono B28.out.size)
          refine hK.out _ _ h29 (fun _ => ?_)
          clear hK K A29
          try simp only [Act.put, List.setIfInBounds_toArray, List.set_cons_zero, List.set_cons_succ]
          have B29 := Lib.hid b29
          have H29 := Lib.hid h29
          clear b29 h29
          refine wpAnyH_take (i := 34) (oi := { dst := some 37, op := Go.Op.binOp Go.BinOp.eql 22 (Go.Operand.tmp 36) (Go.Operand.const (Go.Value.int Go.IntKind.u32 0)) 22, type := 4, pos := "law.go:12", after := #[{ on := 33, ground := Go.Ground.data }, { on := 31, ground := Go.Ground.guard }], guard := some (31, true) }) (v := .bool true) rfl (by kernel_rfl) (by kernel_rfl) (by kernel_rfl) (fun _ _ _ h => h) (Or.inl ⟨by rfl, ?_⟩) H29.out ?_
          · intro w' hSw; clear hSw; go_simp
          try simp only [Act.put, List.setIfInBounds_toArray, List.set_cons_zero, List.set_cons_succ]
          refine wpAnyH_take (i := 35) (oi := { dst := some 38, op := Go.Op.pick (Go.Operand.tmp 34) (Go.Operand.tmp 37) (Go.Operand.const (Go.Value.bool false)), type := 4, pos := "law.go:12", after := #[{ on := 31, ground := Go.Ground.data }, { on := 34, ground := Go.Ground.data }], guard := none }) (v := .bool true) rfl (by kernel_rfl) (by kernel_rfl) (by kernel_rfl) (fun _ _ _ h => h) (Or.inl ⟨by rfl, ?_⟩) H29.out ?_
          · intro w' hSw; clear hSw; go_simp
          try simp only [Act.put, List.setIfInBounds_toArray, List.set_cons_zero, List.set_cons_succ]
          refine wpAnyH_take (i := 36) (oi := { dst := some 0, op := Go.Op.assign (Go.Operand.tmp 38), type := 4, pos := "law.go:12", after := #[{ on := 35, ground := Go.Ground.data }, { on := 33, ground := Go.Ground.chain }, { on := 0, ground := Go.Ground.phase }, { on := 1, ground := Go.Ground.phase }, { on := 2, ground := Go.Ground.phase }, { on := 3, ground := Go.Ground.phase }, { on := 4, ground := Go.Ground.phase }, { on := 5, ground := Go.Ground.phase }, { on := 6, ground := Go.Ground.phase }, { on := 7, ground := Go.Ground.phase }, { on := 8, ground := Go.Ground.phase }, { on := 9, ground := Go.Ground.phase }, { on := 10, ground := Go.Ground.phase }, { on := 11, ground := Go.Ground.phase }, { on := 12, ground := Go.Ground.phase }, { on := 13, ground := Go.Ground.phase }, { on := 14, ground := Go.Ground.phase }, { on := 15, ground := Go.Ground.phase }, { on := 16, ground := Go.Ground.phase }, { on := 17, ground := Go.Ground.phase }, { on := 18, ground := Go.Ground.phase }, { on := 19, ground := Go.Ground.phase }, { on := 20, ground := Go.Ground.phase }, { on := 21, ground := Go.Ground.phase }, { on := 22, ground := Go.Ground.phase }, { on := 23, ground := Go.Ground.phase }, { on := 24, ground := Go.Ground.phase }, { on := 25, ground := Go.Ground.phase }, { on := 26, ground := Go.Ground.phase }, { on := 27, ground := Go.Ground.phase }, { on := 28, ground := Go.Ground.phase }, { on := 29, ground := Go.Ground.phase }, { on := 30, ground := Go.Ground.phase }, { on := 31, ground := Go.Ground.phase }, { on := 32, ground := Go.Ground.phase }, { on := 33, ground := Go.Ground.phase }, { on := 34, ground := Go.Ground.phase }, { on := 35, ground := Go.Ground.phase }], guard := none }) (v := .bool true) rfl (by kernel_rfl) (by kernel_rfl) (by kernel_rfl) (fun _ _ _ h => h) (Or.inl ⟨by rfl, ?_⟩) H29.out ?_
          · intro w' hSw; clear hSw; go_simp
          try simp only [Act.put, List.setIfInBounds_toArray, List.set_cons_zero]
          refine wpAnyH_done (by kernel_rfl) ?_ _
          refine NoPanic.normal ?_
          have bz := B29.out
          go_wp2_with (fail)
          go_ret
          exact ⟨rfl, bz⟩
        exact AllReadyH.nil
      refine AllReadyH.cons (o := { dst := some 30, op := Go.Op.convert 24 24 (Go.Operand.tmp 29), type := 24, pos := "law.go:12", after := #[{ on := 26, ground := Go.Ground.data }, { on := 20, ground := Go.Ground.guard }], guard := some (20, true) }) rfl (fun K hK => ?_) ?_
      · skip
        obtain ⟨W30, r30, n30, x30, y30⟩ := conv_mark (n := 5) (c := 5) N20x20.out
        have h30 : Whole W30 g 23 (arrV tabN) := H20.out.same (y30 g (by omega))
        have b30 : Below w.heap.size w W30 := B20.out.trans (x30.mono (by omega))
        have mword430 := MWORD420x20.out.same (y30 i4 (by omega))
        clear x30 y30
        have N30 := Lib.hid n30
        go_simp
        refine hK.out _ _ h30 (fun _ => ?_)
        clear hK K r30 N30
        try simp only [Act.put, List.setIfInBounds_toArray, List.set_cons_zero, List.set_cons_succ]
        have B30 := Lib.hid b30
        have H30 := Lib.hid h30
        clear b30 h30
        have MWORD430x30 := Lib.hid mword430
        clear mword430
        have N30x30 := Lib.hid n30
        clear n30
        refine wpAnyH_ready (rs := [24]) (by kernel_rfl) (by simp) ?_
        refine AllReadyH.cons (o := { dst := some 27, op := Go.Op.convert 24 24 (Go.Operand.tmp 26), type := 24, pos := "law.go:12", after := #[{ on := 23, ground := Go.Ground.data }, { on := 20, ground := Go.Ground.guard }], guard := some (20, true) }) rfl (fun K hK => ?_) AllReadyH.nil
        obtain ⟨W31, r31, n31, x31, y31⟩ := conv_mark (n := 4) (c := 4) MWORD430x30.out
        have h31 : Whole W31 g 23 (arrV tabN) := H30.out.same (y31 g (by omega))
        have b31 : Below w.heap.size w W31 := B30.out.trans (x31.mono (by omega))
        have mword531 := N30x30.out.same (y31 i20 (by omega))
        clear x31 y31
        have N31 := Lib.hid n31
        go_simp
        refine hK.out _ _ h31 (fun _ => ?_)
        clear hK K r31 N31
        try simp only [Act.put, List.setIfInBounds_toArray, List.set_cons_zero, List.set_cons_succ]
        have B31 := Lib.hid b31
        have H31 := Lib.hid h31
        clear b31 h31
        have MWORD531x31 := Lib.hid mword531
        clear mword531
        have N31x31 := Lib.hid n31
        clear n31
        refine wpAnyH_ready (rs := [25]) (by kernel_rfl) (by simp) ?_
        refine AllReadyH.cons (o := { dst := some 28, op := Go.Op.call { callee := Go.Callee.value (Go.Operand.func 14), args := #[Go.Operand.tmp 25, Go.Operand.tmp 27], argTypes := #[23, 24] }, type := 22, pos := "law.go:12", after := #[{ on := 22, ground := Go.Ground.data }, { on := 24, ground := Go.Ground.data }, { on := 20, ground := Go.Ground.chain }, { on := 20, ground := Go.Ground.guard }], guard := some (20, true) }) rfl (fun K hK => ?_) AllReadyH.nil
        go_simp
        refine (of_any tabN tabN_all _ 4 4 word4 _ (N31x31.out.bytes word4 rfl rfl) (by simp [maxLen])).mono ?_
        rintro e W32 ⟨rfl, a32⟩
        have A32 := Lib.hid a32
        clear a32
        go_wp2_with (fail)
        have h32 : Whole W32 g 23 (arrV tabN) := H31.out.after' A32.out
        have b32 : Below w.heap.size w W32 := B31.out.trans (A32.out.mono B31.out.size)
        have mword532 := MWORD531x31.out.after' A32.out
        refine hK.out _ _ h32 (fun _ => ?_)
        clear hK K A32
        try simp only [Act.put, List.setIfInBounds_toArray, List.set_cons_zero, List.set_cons_succ]
        have B32 := Lib.hid b32
        have H32 := Lib.hid h32
        clear b32 h32
        have MWORD532x32 := Lib.hid mword532
        clear mword532
        refine wpAnyH_ready (rs := [28]) (by kernel_rfl) (by simp) ?_
        refine AllReadyH.cons (o := { dst := some 31, op := Go.Op.call { callee := Go.Callee.value (Go.Operand.func 12), args := #[Go.Operand.tmp 24, Go.Operand.tmp 28, Go.Operand.tmp 30], argTypes := #[23, 22, 24] }, type := 22, pos := "law.go:12", after := #[{ on := 21, ground := Go.Ground.data }, { on := 25, ground := Go.Ground.data }, { on := 27, ground := Go.Ground.data }, { on := 25, ground := Go.Ground.chain }, { on := 20, ground := Go.Ground.guard }], guard := some (20, true) }) rfl (fun K hK => ?_) AllReadyH.nil
        go_simp
        refine (on_any tabN tabN_all (onN tabN 0 word4) (onN_lt _ _ _) _ 5 5 word5 _ (MWORD532x32.out.bytes word5 rfl rfl) (by simp [maxLen])).mono ?_
        rintro e W33 ⟨rfl, a33⟩
        have A33 := Lib.hid a33
        clear a33
        go_wp2_with (fail)
        have h33 : Whole W33 g 23 (arrV tabN) := H32.out.after' A33.out
        have b33 : Below w.heap.size w W33 := B32.out.trans (A33.out.mono B32.out.size)
        refine hK.out _ _ h33 (fun _ => ?_)
        clear hK K A33
        try simp only [Act.put, List.setIfInBounds_toArray, List.set_cons_zero, List.set_cons_succ]
        have B33 := Lib.hid b33
        have H33 := Lib.hid h33
        clear b33 h33
        refine wpAnyH_take (i := 29) (oi := { dst := some 32, op := Go.Op.binOp Go.BinOp.eql 22 (Go.Operand.tmp 31) (Go.Operand.const (Go.Value.int Go.IntKind.u32 3808858755)) 22, type := 4, pos := "law.go:12", after := #[{ on := 28, ground := Go.Ground.data }, { on := 20, ground := Go.Ground.guard }], guard := some (20, true) }) (v := .bool true) rfl (by kernel_rfl) (by kernel_rfl) (by kernel_rfl) (fun _ _ _ h => h) (Or.inl ⟨by rfl, ?_⟩) H33.out ?_
        · intro w' hSw; clear hSw; go_simp
        try simp only [Act.put, List.setIfInBounds_toArray, List.set_cons_zero, List.set_cons_succ]
        refine wpAnyH_take (i := 30) (oi := { dst := some 33, op := Go.Op.pick (Go.Operand.tmp 23) (Go.Operand.tmp 32) (Go.Operand.const (Go.Value.bool false)), type := 4, pos := "law.go:12", after := #[{ on := 20, ground := Go.Ground.data }, { on := 29, ground := Go.Ground.data }], guard := none }) (v := .bool true) rfl (by kernel_rfl) (by kernel_rfl) (by kernel_rfl) (fun _ _ _ h => h) (Or.inl ⟨by rfl, ?_⟩) H33.out ?_
        · intro w' hSw; clear hSw; go_simp
        try simp only [Act.put, List.setIfInBounds_toArray, List.set_cons_zero, List.set_cons_succ]
        refine wpAnyH_take (i := 31) (oi := { dst := some 34, op := Go.Op.move (Go.Operand.tmp 33), type := 4, pos := "law.go:12", after := #[{ on := 30, ground := Go.Ground.data }, { on := 28, ground := Go.Ground.chain }], guard := none }) (v := .bool true) rfl (by kernel_rfl) (by kernel_rfl) (by kernel_rfl) (fun _ _ _ h => h) (Or.inl ⟨by rfl, ?_⟩) H33.out ?_
        · intro w' hSw; clear hSw; go_simp
        try simp only [Act.put, List.setIfInBounds_toArray, List.set_cons_zero, List.set_cons_succ]
        refine wpAnyH_take (i := 32) (oi := { dst := some 35, op := Go.Op.load 23 (Go.Operand.tmp 1), type := 23, pos := "law.go:12", after := #[{ on := 31, ground := Go.Ground.guard }], guard := some (31, true) }) (v := .agg (arrV tabN)) rfl (by kernel_rfl) (by kernel_rfl) (by kernel_rfl) (fun _ _ _ h => h) (take_whole (by rfl) 23 _ rfl g rfl 23 (arrV tabN) _ (fun _ h => h) Try.underlying23 rfl (by rw [arrV_size]; exact sizeT)) H33.out ?_
        try simp only [Act.put, List.setIfInBounds_toArray, List.set_cons_zero, List.set_cons_succ]
        refine wpAnyH_ready (rs := [33]) (by kernel_rfl) (by simp) ?_
        refine AllReadyH.cons (o := { dst := some 36, op := Go.Op.call { callee := Go.Callee.value (Go.Operand.func 14), args := #[Go.Operand.tmp 35, Go.Operand.const (Go.Value.slice none 0 0)], argTypes := #[23, 24] }, type := 22, pos := "law.go:12", after := #[{ on := 32, ground := Go.Ground.data }, { on := 31, ground := Go.Ground.chain }, { on := 31, ground := Go.Ground.guard }], guard := some (31, true) }) rfl (fun K hK => ?_) AllReadyH.nil
        go_simp
        refine (of_any tabN tabN_all none 0 0 [] _ (Bytes.nil _ _ _) (by simp [maxLen])).mono ?_
        rintro e W34 ⟨rfl, a34⟩
        have A34 := Lib.hid a34
        clear a34
        go_wp2_with (fail)
        have h34 : Whole W34 g 23 (arrV tabN) := H33.out.after' A34.out
        have b34 : Below w.heap.size w W34 := B33.out.trans (A34.out.mono B33.out.size)
        refine hK.out _ _ h34 (fun _ => ?_)
        clear hK K A34
        try simp only [Act.put, List.setIfInBounds_toArray, List.set_cons_zero, List.set_cons_succ]
        have B34 := Lib.hid b34
        have H34 := Lib.hid h34
        clear b34 h34
        refine wpAnyH_take (i := 34) (oi := { dst := some 37, op := Go.Op.binOp Go.BinOp.eql 22 (Go.Operand.tmp 36) (Go.Operand.const (Go.Value.int Go.IntKind.u32 0)) 22, type := 4, pos := "law.go:12", after := #[{ on := 33, ground := Go.Ground.data }, { on := 31, ground := Go.Ground.guard }], guard := some (31, true) }) (v := .bool true) rfl (by kernel_rfl) (by kernel_rfl) (by kernel_rfl) (fun _ _ _ h => h) (Or.inl ⟨by rfl, ?_⟩) H34.out ?_
        · intro w' hSw; clear hSw; go_simp
        try simp only [Act.put, List.setIfInBounds_toArray, List.set_cons_zero, List.set_cons_succ]
        refine wpAnyH_take (i := 35) (oi := { dst := some 38, op := Go.Op.pick (Go.Operand.tmp 34) (Go.Operand.tmp 37) (Go.Operand.const (Go.Value.bool false)), type := 4, pos := "law.go:12", after := #[{ on := 31, ground := Go.Ground.data }, { on := 34, ground := Go.Ground.data }], guard := none }) (v := .bool true) rfl (by kernel_rfl) (by kernel_rfl) (by kernel_rfl) (fun _ _ _ h => h) (Or.inl ⟨by rfl, ?_⟩) H34.out ?_
        · intro w' hSw; clear hSw; go_simp
        try simp only [Act.put, List.setIfInBounds_toArray, List.set_cons_zero, List.set_cons_succ]
        refine wpAnyH_take (i := 36) (oi := { dst := some 0, op := Go.Op.assign (Go.Operand.tmp 38), type := 4, pos := "law.go:12", after := #[{ on := 35, ground := Go.Ground.data }, { on := 33, ground := Go.Ground.chain }, { on := 0, ground := Go.Ground.phase }, { on := 1, ground := Go.Ground.phase }, { on := 2, ground := Go.Ground.phase }, { on := 3, ground := Go.Ground.phase }, { on := 4, ground := Go.Ground.phase }, { on := 5, ground := Go.Ground.phase }, { on := 6, ground := Go.Ground.phase }, { on := 7, ground := Go.Ground.phase }, { on := 8, ground := Go.Ground.phase }, { on := 9, ground := Go.Ground.phase }, { on := 10, ground := Go.Ground.phase }, { on := 11, ground := Go.Ground.phase }, { on := 12, ground := Go.Ground.phase }, { on := 13, ground := Go.Ground.phase }, { on := 14, ground := Go.Ground.phase }, { on := 15, ground := Go.Ground.phase }, { on := 16, ground := Go.Ground.phase }, { on := 17, ground := Go.Ground.phase }, { on := 18, ground := Go.Ground.phase }, { on := 19, ground := Go.Ground.phase }, { on := 20, ground := Go.Ground.phase }, { on := 21, ground := Go.Ground.phase }, { on := 22, ground := Go.Ground.phase }, { on := 23, ground := Go.Ground.phase }, { on := 24, ground := Go.Ground.phase }, { on := 25, ground := Go.Ground.phase }, { on := 26, ground := Go.Ground.phase }, { on := 27, ground := Go.Ground.phase }, { on := 28, ground := Go.Ground.phase }, { on := 29, ground := Go.Ground.phase }, { on := 30, ground := Go.Ground.phase }, { on := 31, ground := Go.Ground.phase }, { on := 32, ground := Go.Ground.phase }, { on := 33, ground := Go.Ground.phase }, { on := 34, ground := Go.Ground.phase }, { on := 35, ground := Go.Ground.phase }], guard := none }) (v := .bool true) rfl (by kernel_rfl) (by kernel_rfl) (by kernel_rfl) (fun _ _ _ h => h) (Or.inl ⟨by rfl, ?_⟩) H34.out ?_
        · intro w' hSw; clear hSw; go_simp
        try simp only [Act.put, List.setIfInBounds_toArray, List.set_cons_zero]
        refine wpAnyH_done (by kernel_rfl) ?_ _
        refine NoPanic.normal ?_
        have bz := B34.out
        go_wp2_with (fail)
        go_ret
        exact ⟨rfl, bz⟩
      exact AllReadyH.nil
    exact AllReadyH.nil
  refine AllReadyH.cons (o := { dst := some 29, op := Go.Op.buildSlice 24 5 #[(0, Go.Operand.const (Go.Value.int Go.IntKind.u8 53)), (1, Go.Operand.const (Go.Value.int Go.IntKind.u8 54)), (2, Go.Operand.const (Go.Value.int Go.IntKind.u8 55)), (3, Go.Operand.const (Go.Value.int Go.IntKind.u8 56)), (4, Go.Operand.const (Go.Value.int Go.IntKind.u8 57))], type := 24, pos := "law.go:12", after := #[{ on := 20, ground := Go.Ground.guard }], guard := some (20, true) }) rfl (fun K hK => ?_) ?_
  · skip
    go_simp
    have n35 : Whole (W3.alloc (.cells #[.int .u8 53, .int .u8 54, .int .u8 55, .int .u8 56, .int .u8 57] 5)) W3.heap.size 5 #[.int .u8 53, .int .u8 54, .int .u8 55, .int .u8 56, .int .u8 57] := Whole.made W3 _ _
    have b35 : Below w.heap.size w (W3.alloc (.cells #[.int .u8 53, .int .u8 54, .int .u8 55, .int .u8 56, .int .u8 57] 5)) := B3.out.alloc B3.out.size _
    have h35 : Whole (W3.alloc (.cells #[.int .u8 53, .int .u8 54, .int .u8 55, .int .u8 56, .int .u8 57] 5)) g 23 (arrV tabN) := H3.out.alloc _
    have g35 : g < W3.heap.size := H3.out.lt
    refine hK.out _ _ h35 (fun _ => ?_)
    clear hK K
    try simp only [Act.put, List.setIfInBounds_toArray, List.set_cons_zero, List.set_cons_succ]
    generalize W3.alloc (.cells #[.int .u8 53, .int .u8 54, .int .u8 55, .int .u8 56, .int .u8 57] 5) = W35 at *
    generalize W3.heap.size = i35 at *
    have B35 := Lib.hid b35
    have H35 := Lib.hid h35
    clear b35 h35
    have N35x35 := Lib.hid n35
    clear n35
    refine wpAnyH_ready (rs := [23, 27]) (by kernel_rfl) (by simp) ?_
    refine AllReadyH.cons (o := { dst := some 26, op := Go.Op.buildSlice 24 4 #[(0, Go.Operand.const (Go.Value.int Go.IntKind.u8 49)), (1, Go.Operand.const (Go.Value.int Go.IntKind.u8 50)), (2, Go.Operand.const (Go.Value.int Go.IntKind.u8 51)), (3, Go.Operand.const (Go.Value.int Go.IntKind.u8 52))], type := 24, pos := "law.go:12", after := #[{ on := 20, ground := Go.Ground.guard }], guard := some (20, true) }) rfl (fun K hK => ?_) ?_
    · skip
      go_simp
      have n36 : Whole (W35.alloc (.cells #[.int .u8 49, .int .u8 50, .int .u8 51, .int .u8 52] 5)) W35.heap.size 5 #[.int .u8 49, .int .u8 50, .int .u8 51, .int .u8 52] := Whole.made W35 _ _
      have b36 : Below w.heap.size w (W35.alloc (.cells #[.int .u8 49, .int .u8 50, .int .u8 51, .int .u8 52] 5)) := B35.out.alloc B35.out.size _
      have h36 : Whole (W35.alloc (.cells #[.int .u8 49, .int .u8 50, .int .u8 51, .int .u8 52] 5)) g 23 (arrV tabN) := H35.out.alloc _
      have g36 : g < W35.heap.size := H35.out.lt
      have mword536 := N35x35.out.alloc (.cells #[.int .u8 49, .int .u8 50, .int .u8 51, .int .u8 52] 5)
      have lword536 : i35 < W35.heap.size := N35x35.out.lt
      refine hK.out _ _ h36 (fun _ => ?_)
      clear hK K
      try simp only [Act.put, List.setIfInBounds_toArray, List.set_cons_zero, List.set_cons_succ]
      generalize W35.alloc (.cells #[.int .u8 49, .int .u8 50, .int .u8 51, .int .u8 52] 5) = W36 at *
      generalize W35.heap.size = i36 at *
      have B36 := Lib.hid b36
      have H36 := Lib.hid h36
      clear b36 h36
      have MWORD536x36 := Lib.hid mword536
      clear mword536
      have N36x36 := Lib.hid n36
      clear n36
      refine wpAnyH_ready (rs := [24, 27]) (by kernel_rfl) (by simp) ?_
      refine AllReadyH.cons (o := { dst := some 27, op := Go.Op.convert 24 24 (Go.Operand.tmp 26), type := 24, pos := "law.go:12", after := #[{ on := 23, ground := Go.Ground.data }, { on := 20, ground := Go.Ground.guard }], guard := some (20, true) }) rfl (fun K hK => ?_) ?_
      · skip
        obtain ⟨W37, r37, n37, x37, y37⟩ := conv_mark (n := 4) (c := 4) N36x36.out
        have h37 : Whole W37 g 23 (arrV tabN) := H36.out.same (y37 g (by omega))
        have b37 : Below w.heap.size w W37 := B36.out.trans (x37.mono (by omega))
        have mword537 := MWORD536x36.out.same (y37 i35 (by omega))
        clear x37 y37
        have N37 := Lib.hid n37
        go_simp
        refine hK.out _ _ h37 (fun _ => ?_)
        clear hK K r37 N37
        try simp only [Act.put, List.setIfInBounds_toArray, List.set_cons_zero, List.set_cons_succ]
        have B37 := Lib.hid b37
        have H37 := Lib.hid h37
        clear b37 h37
        have MWORD537x37 := Lib.hid mword537
        clear mword537
        have N37x37 := Lib.hid n37
        clear n37
        refine wpAnyH_ready (rs := [25, 27]) (by kernel_rfl) (by simp) ?_
        refine AllReadyH.cons (o := { dst := some 28, op := Go.Op.call { callee := Go.Callee.value (Go.Operand.func 14), args := #[Go.Operand.tmp 25, Go.Operand.tmp 27], argTypes := #[23, 24] }, type := 22, pos := "law.go:12", after := #[{ on := 22, ground := Go.Ground.data }, { on := 24, ground := Go.Ground.data }, { on := 20, ground := Go.Ground.chain }, { on := 20, ground := Go.Ground.guard }], guard := some (20, true) }) rfl (fun K hK => ?_) ?_
        · skip
          go_simp
          refine (of_any tabN tabN_all _ 4 4 word4 _ (N37x37.out.bytes word4 rfl rfl) (by simp [maxLen])).mono ?_
          rintro e W38 ⟨rfl, a38⟩
          have A38 := Lib.hid a38
          clear a38
          go_wp2_with (fail)
          have h38 : Whole W38 g 23 (arrV tabN) := H37.out.after' A38.out
          have b38 : Below w.heap.size w W38 := B37.out.trans (A38.out.mono B37.out.size)
          have mword538 := MWORD537x37.out.after' A38.out
          refine hK.out _ _ h38 (fun _ => ?_)
          clear hK K A38
          try simp only [Act.put, List.setIfInBounds_toArray, List.set_cons_zero, List.set_cons_succ]
          have B38 := Lib.hid b38
          have H38 := Lib.hid h38
          clear b38 h38
          have MWORD538x38 := Lib.hid mword538
          clear mword538
          refine wpAnyH_ready (rs := [27]) (by kernel_rfl) (by simp) ?_
          refine AllReadyH.cons (o := { dst := some 30, op := Go.Op.convert 24 24 (Go.Operand.tmp 29), type := 24, pos := "law.go:12", after := #[{ on := 26, ground := Go.Ground.data }, { on := 20, ground := Go.Ground.guard }], guard := some (20, true) }) rfl (fun K hK => ?_) AllReadyH.nil
          obtain ⟨W39, r39, n39, x39, y39⟩ := conv_mark (n := 5) (c := 5) MWORD538x38.out
          have h39 : Whole W39 g 23 (arrV tabN) := H38.out.same (y39 g (by omega))
          have b39 : Below w.heap.size w W39 := B38.out.trans (x39.mono (by omega))
          clear x39 y39
          have N39 := Lib.hid n39
          go_simp
          refine hK.out _ _ h39 (fun _ => ?_)
          clear hK K r39 N39
          try simp only [Act.put, List.setIfInBounds_toArray, List.set_cons_zero, List.set_cons_succ]
          have B39 := Lib.hid b39
          have H39 := Lib.hid h39
          clear b39 h39
          have N39x39 := Lib.hid n39
          clear n39
          refine wpAnyH_ready (rs := [28]) (by kernel_rfl) (by simp) ?_
          refine AllReadyH.cons (o := { dst := some 31, op := Go.Op.call { callee := Go.Callee.value (Go.Operand.func 12), args := #[Go.Operand.tmp 24, Go.Operand.tmp 28, Go.Operand.tmp 30], argTypes := #[23, 22, 24] }, type := 22, pos := "law.go:12", after := #[{ on := 21, ground := Go.Ground.data }, { on := 25, ground := Go.Ground.data }, { on := 27, ground := Go.Ground.data }, { on := 25, ground := Go.Ground.chain }, { on := 20, ground := Go.Ground.guard }], guard := some (20, true) }) rfl (fun K hK => ?_) AllReadyH.nil
          go_simp
          refine (on_any tabN tabN_all (onN tabN 0 word4) (onN_lt _ _ _) _ 5 5 word5 _ (N39x39.out.bytes word5 rfl rfl) (by simp [maxLen])).mono ?_
          rintro e W40 ⟨rfl, a40⟩
          have A40 := Lib.hid a40
          clear a40
          go_wp2_with (fail)
          have h40 : Whole W40 g 23 (arrV tabN) := H39.out.after' A40.out
          have b40 : Below w.heap.size w W40 := B39.out.trans (A40.out.mono B39.out.size)
          refine hK.out _ _ h40 (fun _ => ?_)
          clear hK K A40
          try simp only [Act.put, List.setIfInBounds_toArray, List.set_cons_zero, List.set_cons_succ]
          have B40 := Lib.hid b40
          have H40 := Lib.hid h40
          clear b40 h40
          refine wpAnyH_take (i := 29) (oi := { dst := some 32, op := Go.Op.binOp Go.BinOp.eql 22 (Go.Operand.tmp 31) (Go.Operand.const (Go.Value.int Go.IntKind.u32 3808858755)) 22, type := 4, pos := "law.go:12", after := #[{ on := 28, ground := Go.Ground.data }, { on := 20, ground := Go.Ground.guard }], guard := some (20, true) }) (v := .bool true) rfl (by kernel_rfl) (by kernel_rfl) (by kernel_rfl) (fun _ _ _ h => h) (Or.inl ⟨by rfl, ?_⟩) H40.out ?_
          · intro w' hSw; clear hSw; go_simp
          try simp only [Act.put, List.setIfInBounds_toArray, List.set_cons_zero, List.set_cons_succ]
          refine wpAnyH_take (i := 30) (oi := { dst := some 33, op := Go.Op.pick (Go.Operand.tmp 23) (Go.Operand.tmp 32) (Go.Operand.const (Go.Value.bool false)), type := 4, pos := "law.go:12", after := #[{ on := 20, ground := Go.Ground.data }, { on := 29, ground := Go.Ground.data }], guard := none }) (v := .bool true) rfl (by kernel_rfl) (by kernel_rfl) (by kernel_rfl) (fun _ _ _ h => h) (Or.inl ⟨by rfl, ?_⟩) H40.out ?_
          · intro w' hSw; clear hSw; go_simp
          try simp only [Act.put, List.setIfInBounds_toArray, List.set_cons_zero, List.set_cons_succ]
          refine wpAnyH_take (i := 31) (oi := { dst := some 34, op := Go.Op.move (Go.Operand.tmp 33), type := 4, pos := "law.go:12", after := #[{ on := 30, ground := Go.Ground.data }, { on := 28, ground := Go.Ground.chain }], guard := none }) (v := .bool true) rfl (by kernel_rfl) (by kernel_rfl) (by kernel_rfl) (fun _ _ _ h => h) (Or.inl ⟨by rfl, ?_⟩) H40.out ?_
          · intro w' hSw; clear hSw; go_simp
          try simp only [Act.put, List.setIfInBounds_toArray, List.set_cons_zero, List.set_cons_succ]
          refine wpAnyH_take (i := 32) (oi := { dst := some 35, op := Go.Op.load 23 (Go.Operand.tmp 1), type := 23, pos := "law.go:12", after := #[{ on := 31, ground := Go.Ground.guard }], guard := some (31, true) }) (v := .agg (arrV tabN)) rfl (by kernel_rfl) (by kernel_rfl) (by kernel_rfl) (fun _ _ _ h => h) (take_whole (by rfl) 23 _ rfl g rfl 23 (arrV tabN) _ (fun _ h => h) Try.underlying23 rfl (by rw [arrV_size]; exact sizeT)) H40.out ?_
          try simp only [Act.put, List.setIfInBounds_toArray, List.set_cons_zero, List.set_cons_succ]
          refine wpAnyH_ready (rs := [33]) (by kernel_rfl) (by simp) ?_
          refine AllReadyH.cons (o := { dst := some 36, op := Go.Op.call { callee := Go.Callee.value (Go.Operand.func 14), args := #[Go.Operand.tmp 35, Go.Operand.const (Go.Value.slice none 0 0)], argTypes := #[23, 24] }, type := 22, pos := "law.go:12", after := #[{ on := 32, ground := Go.Ground.data }, { on := 31, ground := Go.Ground.chain }, { on := 31, ground := Go.Ground.guard }], guard := some (31, true) }) rfl (fun K hK => ?_) AllReadyH.nil
          go_simp
          refine (of_any tabN tabN_all none 0 0 [] _ (Bytes.nil _ _ _) (by simp [maxLen])).mono ?_
          rintro e W41 ⟨rfl, a41⟩
          have A41 := Lib.hid a41
          clear a41
          go_wp2_with (fail)
          have h41 : Whole W41 g 23 (arrV tabN) := H40.out.after' A41.out
          have b41 : Below w.heap.size w W41 := B40.out.trans (A41.out.mono B40.out.size)
          refine hK.out _ _ h41 (fun _ => ?_)
          clear hK K A41
          try simp only [Act.put, List.setIfInBounds_toArray, List.set_cons_zero, List.set_cons_succ]
          have B41 := Lib.hid b41
          have H41 := Lib.hid h41
          clear b41 h41
          refine wpAnyH_take (i := 34) (oi := { dst := some 37, op := Go.Op.binOp Go.BinOp.eql 22 (Go.Operand.tmp 36) (Go.Operand.const (Go.Value.int Go.IntKind.u32 0)) 22, type := 4, pos := "law.go:12", after := #[{ on := 33, ground := Go.Ground.data }, { on := 31, ground := Go.Ground.guard }], guard := some (31, true) }) (v := .bool true) rfl (by kernel_rfl) (by kernel_rfl) (by kernel_rfl) (fun _ _ _ h => h) (Or.inl ⟨by rfl, ?_⟩) H41.out ?_
          · intro w' hSw; clear hSw; go_simp
          try simp only [Act.put, List.setIfInBounds_toArray, List.set_cons_zero, List.set_cons_succ]
          refine wpAnyH_take (i := 35) (oi := { dst := some 38, op := Go.Op.pick (Go.Operand.tmp 34) (Go.Operand.tmp 37) (Go.Operand.const (Go.Value.bool false)), type := 4, pos := "law.go:12", after := #[{ on := 31, ground := Go.Ground.data }, { on := 34, ground := Go.Ground.data }], guard := none }) (v := .bool true) rfl (by kernel_rfl) (by kernel_rfl) (by kernel_rfl) (fun _ _ _ h => h) (Or.inl ⟨by rfl, ?_⟩) H41.out ?_
          · intro w' hSw; clear hSw; go_simp
          try simp only [Act.put, List.setIfInBounds_toArray, List.set_cons_zero, List.set_cons_succ]
          refine wpAnyH_take (i := 36) (oi := { dst := some 0, op := Go.Op.assign (Go.Operand.tmp 38), type := 4, pos := "law.go:12", after := #[{ on := 35, ground := Go.Ground.data }, { on := 33, ground := Go.Ground.chain }, { on := 0, ground := Go.Ground.phase }, { on := 1, ground := Go.Ground.phase }, { on := 2, ground := Go.Ground.phase }, { on := 3, ground := Go.Ground.phase }, { on := 4, ground := Go.Ground.phase }, { on := 5, ground := Go.Ground.phase }, { on := 6, ground := Go.Ground.phase }, { on := 7, ground := Go.Ground.phase }, { on := 8, ground := Go.Ground.phase }, { on := 9, ground := Go.Ground.phase }, { on := 10, ground := Go.Ground.phase }, { on := 11, ground := Go.Ground.phase }, { on := 12, ground := Go.Ground.phase }, { on := 13, ground := Go.Ground.phase }, { on := 14, ground := Go.Ground.phase }, { on := 15, ground := Go.Ground.phase }, { on := 16, ground := Go.Ground.phase }, { on := 17, ground := Go.Ground.phase }, { on := 18, ground := Go.Ground.phase }, { on := 19, ground := Go.Ground.phase }, { on := 20, ground := Go.Ground.phase }, { on := 21, ground := Go.Ground.phase }, { on := 22, ground := Go.Ground.phase }, { on := 23, ground := Go.Ground.phase }, { on := 24, ground := Go.Ground.phase }, { on := 25, ground := Go.Ground.phase }, { on := 26, ground := Go.Ground.phase }, { on := 27, ground := Go.Ground.phase }, { on := 28, ground := Go.Ground.phase }, { on := 29, ground := Go.Ground.phase }, { on := 30, ground := Go.Ground.phase }, { on := 31, ground := Go.Ground.phase }, { on := 32, ground := Go.Ground.phase }, { on := 33, ground := Go.Ground.phase }, { on := 34, ground := Go.Ground.phase }, { on := 35, ground := Go.Ground.phase }], guard := none }) (v := .bool true) rfl (by kernel_rfl) (by kernel_rfl) (by kernel_rfl) (fun _ _ _ h => h) (Or.inl ⟨by rfl, ?_⟩) H41.out ?_
          · intro w' hSw; clear hSw; go_simp
          try simp only [Act.put, List.setIfInBounds_toArray, List.set_cons_zero]
          refine wpAnyH_done (by kernel_rfl) ?_ _
          refine NoPanic.normal ?_
          have bz := B41.out
          go_wp2_with (fail)
          go_ret
          exact ⟨rfl, bz⟩
        refine AllReadyH.cons (o := { dst := some 30, op := Go.Op.convert 24 24 (Go.Operand.tmp 29), type := 24, pos := "law.go:12", after := #[{ on := 26, ground := Go.Ground.data }, { on := 20, ground := Go.Ground.guard }], guard := some (20, true) }) rfl (fun K hK => ?_) ?_
        · skip
          obtain ⟨W42, r42, n42, x42, y42⟩ := conv_mark (n := 5) (c := 5) MWORD537x37.out
          have h42 : Whole W42 g 23 (arrV tabN) := H37.out.same (y42 g (by omega))
          have b42 : Below w.heap.size w W42 := B37.out.trans (x42.mono (by omega))
          have mword442 := N37x37.out.same (y42 i36 (by omega))
          clear x42 y42
          have N42 := Lib.hid n42
          go_simp
          refine hK.out _ _ h42 (fun _ => ?_)
          clear hK K r42 N42
          try simp only [Act.put, List.setIfInBounds_toArray, List.set_cons_zero, List.set_cons_succ]
          have B42 := Lib.hid b42
          have H42 := Lib.hid h42
          clear b42 h42
          have MWORD442x42 := Lib.hid mword442
          clear mword442
          have N42x42 := Lib.hid n42
          clear n42
          refine wpAnyH_ready (rs := [25]) (by kernel_rfl) (by simp) ?_
          refine AllReadyH.cons (o := { dst := some 28, op := Go.Op.call { callee := Go.Callee.value (Go.Operand.func 14), args := #[Go.Operand.tmp 25, Go.Operand.tmp 27], argTypes := #[23, 24] }, type := 22, pos := "law.go:12", after := #[{ on := 22, ground := Go.Ground.data }, { on := 24, ground := Go.Ground.data }, { on := 20, ground := Go.Ground.chain }, { on := 20, ground := Go.Ground.guard }], guard := some (20, true) }) rfl (fun K hK => ?_) AllReadyH.nil
          go_simp
          refine (of_any tabN tabN_all _ 4 4 word4 _ (MWORD442x42.out.bytes word4 rfl rfl) (by simp [maxLen])).mono ?_
          rintro e W43 ⟨rfl, a43⟩
          have A43 := Lib.hid a43
          clear a43
          go_wp2_with (fail)
          have h43 : Whole W43 g 23 (arrV tabN) := H42.out.after' A43.out
          have b43 : Below w.heap.size w W43 := B42.out.trans (A43.out.mono B42.out.size)
          have mword543 := N42x42.out.after' A43.out
          refine hK.out _ _ h43 (fun _ => ?_)
          clear hK K A43
          try simp only [Act.put, List.setIfInBounds_toArray, List.set_cons_zero, List.set_cons_succ]
          have B43 := Lib.hid b43
          have H43 := Lib.hid h43
          clear b43 h43
          have MWORD543x43 := Lib.hid mword543
          clear mword543
          refine wpAnyH_ready (rs := [28]) (by kernel_rfl) (by simp) ?_
          refine AllReadyH.cons (o := { dst := some 31, op := Go.Op.call { callee := Go.Callee.value (Go.Operand.func 12), args := #[Go.Operand.tmp 24, Go.Operand.tmp 28, Go.Operand.tmp 30], argTypes := #[23, 22, 24] }, type := 22, pos := "law.go:12", after := #[{ on := 21, ground := Go.Ground.data }, { on := 25, ground := Go.Ground.data }, { on := 27, ground := Go.Ground.data }, { on := 25, ground := Go.Ground.chain }, { on := 20, ground := Go.Ground.guard }], guard := some (20, true) }) rfl (fun K hK => ?_) AllReadyH.nil
          go_simp
          refine (on_any tabN tabN_all (onN tabN 0 word4) (onN_lt _ _ _) _ 5 5 word5 _ (MWORD543x43.out.bytes word5 rfl rfl) (by simp [maxLen])).mono ?_
          rintro e W44 ⟨rfl, a44⟩
          have A44 := Lib.hid a44
          clear a44
          go_wp2_with (fail)
          have h44 : Whole W44 g 23 (arrV tabN) := H43.out.after' A44.out
          have b44 : Below w.heap.size w W44 := B43.out.trans (A44.out.mono B43.out.size)
          refine hK.out _ _ h44 (fun _ => ?_)
          clear hK K A44
          try simp only [Act.put, List.setIfInBounds_toArray, List.set_cons_zero, List.set_cons_succ]
          have B44 := Lib.hid b44
          have H44 := Lib.hid h44
          clear b44 h44
          refine wpAnyH_take (i := 29) (oi := { dst := some 32, op := Go.Op.binOp Go.BinOp.eql 22 (Go.Operand.tmp 31) (Go.Operand.const (Go.Value.int Go.IntKind.u32 3808858755)) 22, type := 4, pos := "law.go:12", after := #[{ on := 28, ground := Go.Ground.data }, { on := 20, ground := Go.Ground.guard }], guard := some (20, true) }) (v := .bool true) rfl (by kernel_rfl) (by kernel_rfl) (by kernel_rfl) (fun _ _ _ h => h) (Or.inl ⟨by rfl, ?_⟩) H44.out ?_
          · intro w' hSw; clear hSw; go_simp
          try simp only [Act.put, List.setIfInBounds_toArray, List.set_cons_zero, List.set_cons_succ]
          refine wpAnyH_take (i := 30) (oi := { dst := some 33, op := Go.Op.pick (Go.Operand.tmp 23) (Go.Operand.tmp 32) (Go.Operand.const (Go.Value.bool false)), type := 4, pos := "law.go:12", after := #[{ on := 20, ground := Go.Ground.data }, { on := 29, ground := Go.Ground.data }], guard := none }) (v := .bool true) rfl (by kernel_rfl) (by kernel_rfl) (by kernel_rfl) (fun _ _ _ h => h) (Or.inl ⟨by rfl, ?_⟩) H44.out ?_
          · intro w' hSw; clear hSw; go_simp
          try simp only [Act.put, List.setIfInBounds_toArray, List.set_cons_zero, List.set_cons_succ]
          refine wpAnyH_take (i := 31) (oi := { dst := some 34, op := Go.Op.move (Go.Operand.tmp 33), type := 4, pos := "law.go:12", after := #[{ on := 30, ground := Go.Ground.data }, { on := 28, ground := Go.Ground.chain }], guard := none }) (v := .bool true) rfl (by kernel_rfl) (by kernel_rfl) (by kernel_rfl) (fun _ _ _ h => h) (Or.inl ⟨by rfl, ?_⟩) H44.out ?_
          · intro w' hSw; clear hSw; go_simp
          try simp only [Act.put, List.setIfInBounds_toArray, List.set_cons_zero, List.set_cons_succ]
          refine wpAnyH_take (i := 32) (oi := { dst := some 35, op := Go.Op.load 23 (Go.Operand.tmp 1), type := 23, pos := "law.go:12", after := #[{ on := 31, ground := Go.Ground.guard }], guard := some (31, true) }) (v := .agg (arrV tabN)) rfl (by kernel_rfl) (by kernel_rfl) (by kernel_rfl) (fun _ _ _ h => h) (take_whole (by rfl) 23 _ rfl g rfl 23 (arrV tabN) _ (fun _ h => h) Try.underlying23 rfl (by rw [arrV_size]; exact sizeT)) H44.out ?_
          try simp only [Act.put, List.setIfInBounds_toArray, List.set_cons_zero, List.set_cons_succ]
          refine wpAnyH_ready (rs := [33]) (by kernel_rfl) (by simp) ?_
          refine AllReadyH.cons (o := { dst := some 36, op := Go.Op.call { callee := Go.Callee.value (Go.Operand.func 14), args := #[Go.Operand.tmp 35, Go.Operand.const (Go.Value.slice none 0 0)], argTypes := #[23, 24] }, type := 22, pos := "law.go:12", after := #[{ on := 32, ground := Go.Ground.data }, { on := 31, ground := Go.Ground.chain }, { on := 31, ground := Go.Ground.guard }], guard := some (31, true) }) rfl (fun K hK => ?_) AllReadyH.nil
          go_simp
          refine (of_any tabN tabN_all none 0 0 [] _ (Bytes.nil _ _ _) (by simp [maxLen])).mono ?_
          rintro e W45 ⟨rfl, a45⟩
          have A45 := Lib.hid a45
          clear a45
          go_wp2_with (fail)
          have h45 : Whole W45 g 23 (arrV tabN) := H44.out.after' A45.out
          have b45 : Below w.heap.size w W45 := B44.out.trans (A45.out.mono B44.out.size)
          refine hK.out _ _ h45 (fun _ => ?_)
          clear hK K A45
          try simp only [Act.put, List.setIfInBounds_toArray, List.set_cons_zero, List.set_cons_succ]
          have B45 := Lib.hid b45
          have H45 := Lib.hid h45
          clear b45 h45
          refine wpAnyH_take (i := 34) (oi := { dst := some 37, op := Go.Op.binOp Go.BinOp.eql 22 (Go.Operand.tmp 36) (Go.Operand.const (Go.Value.int Go.IntKind.u32 0)) 22, type := 4, pos := "law.go:12", after := #[{ on := 33, ground := Go.Ground.data }, { on := 31, ground := Go.Ground.guard }], guard := some (31, true) }) (v := .bool true) rfl (by kernel_rfl) (by kernel_rfl) (by kernel_rfl) (fun _ _ _ h => h) (Or.inl ⟨by rfl, ?_⟩) H45.out ?_
          · intro w' hSw; clear hSw; go_simp
          try simp only [Act.put, List.setIfInBounds_toArray, List.set_cons_zero, List.set_cons_succ]
          refine wpAnyH_take (i := 35) (oi := { dst := some 38, op := Go.Op.pick (Go.Operand.tmp 34) (Go.Operand.tmp 37) (Go.Operand.const (Go.Value.bool false)), type := 4, pos := "law.go:12", after := #[{ on := 31, ground := Go.Ground.data }, { on := 34, ground := Go.Ground.data }], guard := none }) (v := .bool true) rfl (by kernel_rfl) (by kernel_rfl) (by kernel_rfl) (fun _ _ _ h => h) (Or.inl ⟨by rfl, ?_⟩) H45.out ?_
          · intro w' hSw; clear hSw; go_simp
          try simp only [Act.put, List.setIfInBounds_toArray, List.set_cons_zero, List.set_cons_succ]
          refine wpAnyH_take (i := 36) (oi := { dst := some 0, op := Go.Op.assign (Go.Operand.tmp 38), type := 4, pos := "law.go:12", after := #[{ on := 35, ground := Go.Ground.data }, { on := 33, ground := Go.Ground.chain }, { on := 0, ground := Go.Ground.phase }, { on := 1, ground := Go.Ground.phase }, { on := 2, ground := Go.Ground.phase }, { on := 3, ground := Go.Ground.phase }, { on := 4, ground := Go.Ground.phase }, { on := 5, ground := Go.Ground.phase }, { on := 6, ground := Go.Ground.phase }, { on := 7, ground := Go.Ground.phase }, { on := 8, ground := Go.Ground.phase }, { on := 9, ground := Go.Ground.phase }, { on := 10, ground := Go.Ground.phase }, { on := 11, ground := Go.Ground.phase }, { on := 12, ground := Go.Ground.phase }, { on := 13, ground := Go.Ground.phase }, { on := 14, ground := Go.Ground.phase }, { on := 15, ground := Go.Ground.phase }, { on := 16, ground := Go.Ground.phase }, { on := 17, ground := Go.Ground.phase }, { on := 18, ground := Go.Ground.phase }, { on := 19, ground := Go.Ground.phase }, { on := 20, ground := Go.Ground.phase }, { on := 21, ground := Go.Ground.phase }, { on := 22, ground := Go.Ground.phase }, { on := 23, ground := Go.Ground.phase }, { on := 24, ground := Go.Ground.phase }, { on := 25, ground := Go.Ground.phase }, { on := 26, ground := Go.Ground.phase }, { on := 27, ground := Go.Ground.phase }, { on := 28, ground := Go.Ground.phase }, { on := 29, ground := Go.Ground.phase }, { on := 30, ground := Go.Ground.phase }, { on := 31, ground := Go.Ground.phase }, { on := 32, ground := Go.Ground.phase }, { on := 33, ground := Go.Ground.phase }, { on := 34, ground := Go.Ground.phase }, { on := 35, ground := Go.Ground.phase }], guard := none }) (v := .bool true) rfl (by kernel_rfl) (by kernel_rfl) (by kernel_rfl) (fun _ _ _ h => h) (Or.inl ⟨by rfl, ?_⟩) H45.out ?_
          · intro w' hSw; clear hSw; go_simp
          try simp only [Act.put, List.setIfInBounds_toArray, List.set_cons_zero]
          refine wpAnyH_done (by kernel_rfl) ?_ _
          refine NoPanic.normal ?_
          have bz := B45.out
          go_wp2_with (fail)
          go_ret
          exact ⟨rfl, bz⟩
        exact AllReadyH.nil
      refine AllReadyH.cons (o := { dst := some 30, op := Go.Op.convert 24 24 (Go.Operand.tmp 29), type := 24, pos := "law.go:12", after := #[{ on := 26, ground := Go.Ground.data }, { on := 20, ground := Go.Ground.guard }], guard := some (20, true) }) rfl (fun K hK => ?_) ?_
      · skip
        obtain ⟨W46, r46, n46, x46, y46⟩ := conv_mark (n := 5) (c := 5) MWORD536x36.out
        have h46 : Whole W46 g 23 (arrV tabN) := H36.out.same (y46 g (by omega))
        have b46 : Below w.heap.size w W46 := B36.out.trans (x46.mono (by omega))
        have mword446 := N36x36.out.same (y46 i36 (by omega))
        clear x46 y46
        have N46 := Lib.hid n46
        go_simp
        refine hK.out _ _ h46 (fun _ => ?_)
        clear hK K r46 N46
        try simp only [Act.put, List.setIfInBounds_toArray, List.set_cons_zero, List.set_cons_succ]
        have B46 := Lib.hid b46
        have H46 := Lib.hid h46
        clear b46 h46
        have MWORD446x46 := Lib.hid mword446
        clear mword446
        have N46x46 := Lib.hid n46
        clear n46
        refine wpAnyH_ready (rs := [24]) (by kernel_rfl) (by simp) ?_
        refine AllReadyH.cons (o := { dst := some 27, op := Go.Op.convert 24 24 (Go.Operand.tmp 26), type := 24, pos := "law.go:12", after := #[{ on := 23, ground := Go.Ground.data }, { on := 20, ground := Go.Ground.guard }], guard := some (20, true) }) rfl (fun K hK => ?_) AllReadyH.nil
        obtain ⟨W47, r47, n47, x47, y47⟩ := conv_mark (n := 4) (c := 4) MWORD446x46.out
        have h47 : Whole W47 g 23 (arrV tabN) := H46.out.same (y47 g (by omega))
        have b47 : Below w.heap.size w W47 := B46.out.trans (x47.mono (by omega))
        have mword547 := N46x46.out.same (y47 i35 (by omega))
        clear x47 y47
        have N47 := Lib.hid n47
        go_simp
        refine hK.out _ _ h47 (fun _ => ?_)
        clear hK K r47 N47
        try simp only [Act.put, List.setIfInBounds_toArray, List.set_cons_zero, List.set_cons_succ]
        have B47 := Lib.hid b47
        have H47 := Lib.hid h47
        clear b47 h47
        have MWORD547x47 := Lib.hid mword547
        clear mword547
        have N47x47 := Lib.hid n47
        clear n47
        refine wpAnyH_ready (rs := [25]) (by kernel_rfl) (by simp) ?_
        refine AllReadyH.cons (o := { dst := some 28, op := Go.Op.call { callee := Go.Callee.value (Go.Operand.func 14), args := #[Go.Operand.tmp 25, Go.Operand.tmp 27], argTypes := #[23, 24] }, type := 22, pos := "law.go:12", after := #[{ on := 22, ground := Go.Ground.data }, { on := 24, ground := Go.Ground.data }, { on := 20, ground := Go.Ground.chain }, { on := 20, ground := Go.Ground.guard }], guard := some (20, true) }) rfl (fun K hK => ?_) AllReadyH.nil
        go_simp
        refine (of_any tabN tabN_all _ 4 4 word4 _ (N47x47.out.bytes word4 rfl rfl) (by simp [maxLen])).mono ?_
        rintro e W48 ⟨rfl, a48⟩
        have A48 := Lib.hid a48
        clear a48
        go_wp2_with (fail)
        have h48 : Whole W48 g 23 (arrV tabN) := H47.out.after' A48.out
        have b48 : Below w.heap.size w W48 := B47.out.trans (A48.out.mono B47.out.size)
        have mword548 := MWORD547x47.out.after' A48.out
        refine hK.out _ _ h48 (fun _ => ?_)
        clear hK K A48
        try simp only [Act.put, List.setIfInBounds_toArray, List.set_cons_zero, List.set_cons_succ]
        have B48 := Lib.hid b48
        have H48 := Lib.hid h48
        clear b48 h48
        have MWORD548x48 := Lib.hid mword548
        clear mword548
        refine wpAnyH_ready (rs := [28]) (by kernel_rfl) (by simp) ?_
        refine AllReadyH.cons (o := { dst := some 31, op := Go.Op.call { callee := Go.Callee.value (Go.Operand.func 12), args := #[Go.Operand.tmp 24, Go.Operand.tmp 28, Go.Operand.tmp 30], argTypes := #[23, 22, 24] }, type := 22, pos := "law.go:12", after := #[{ on := 21, ground := Go.Ground.data }, { on := 25, ground := Go.Ground.data }, { on := 27, ground := Go.Ground.data }, { on := 25, ground := Go.Ground.chain }, { on := 20, ground := Go.Ground.guard }], guard := some (20, true) }) rfl (fun K hK => ?_) AllReadyH.nil
        go_simp
        refine (on_any tabN tabN_all (onN tabN 0 word4) (onN_lt _ _ _) _ 5 5 word5 _ (MWORD548x48.out.bytes word5 rfl rfl) (by simp [maxLen])).mono ?_
        rintro e W49 ⟨rfl, a49⟩
        have A49 := Lib.hid a49
        clear a49
        go_wp2_with (fail)
        have h49 : Whole W49 g 23 (arrV tabN) := H48.out.after' A49.out
        have b49 : Below w.heap.size w W49 := B48.out.trans (A49.out.mono B48.out.size)
        refine hK.out _ _ h49 (fun _ => ?_)
        clear hK K A49
        try simp only [Act.put, List.setIfInBounds_toArray, List.set_cons_zero, List.set_cons_succ]
        have B49 := Lib.hid b49
        have H49 := Lib.hid h49
        clear b49 h49
        refine wpAnyH_take (i := 29) (oi := { dst := some 32, op := Go.Op.binOp Go.BinOp.eql 22 (Go.Operand.tmp 31) (Go.Operand.const (Go.Value.int Go.IntKind.u32 3808858755)) 22, type := 4, pos := "law.go:12", after := #[{ on := 28, ground := Go.Ground.data }, { on := 20, ground := Go.Ground.guard }], guard := some (20, true) }) (v := .bool true) rfl (by kernel_rfl) (by kernel_rfl) (by kernel_rfl) (fun _ _ _ h => h) (Or.inl ⟨by rfl, ?_⟩) H49.out ?_
        · intro w' hSw; clear hSw; go_simp
        try simp only [Act.put, List.setIfInBounds_toArray, List.set_cons_zero, List.set_cons_succ]
        refine wpAnyH_take (i := 30) (oi := { dst := some 33, op := Go.Op.pick (Go.Operand.tmp 23) (Go.Operand.tmp 32) (Go.Operand.const (Go.Value.bool false)), type := 4, pos := "law.go:12", after := #[{ on := 20, ground := Go.Ground.data }, { on := 29, ground := Go.Ground.data }], guard := none }) (v := .bool true) rfl (by kernel_rfl) (by kernel_rfl) (by kernel_rfl) (fun _ _ _ h => h) (Or.inl ⟨by rfl, ?_⟩) H49.out ?_
        · intro w' hSw; clear hSw; go_simp
        try simp only [Act.put, List.setIfInBounds_toArray, List.set_cons_zero, List.set_cons_succ]
        refine wpAnyH_take (i := 31) (oi := { dst := some 34, op := Go.Op.move (Go.Operand.tmp 33), type := 4, pos := "law.go:12", after := #[{ on := 30, ground := Go.Ground.data }, { on := 28, ground := Go.Ground.chain }], guard := none }) (v := .bool true) rfl (by kernel_rfl) (by kernel_rfl) (by kernel_rfl) (fun _ _ _ h => h) (Or.inl ⟨by rfl, ?_⟩) H49.out ?_
        · intro w' hSw; clear hSw; go_simp
        try simp only [Act.put, List.setIfInBounds_toArray, List.set_cons_zero, List.set_cons_succ]
        refine wpAnyH_take (i := 32) (oi := { dst := some 35, op := Go.Op.load 23 (Go.Operand.tmp 1), type := 23, pos := "law.go:12", after := #[{ on := 31, ground := Go.Ground.guard }], guard := some (31, true) }) (v := .agg (arrV tabN)) rfl (by kernel_rfl) (by kernel_rfl) (by kernel_rfl) (fun _ _ _ h => h) (take_whole (by rfl) 23 _ rfl g rfl 23 (arrV tabN) _ (fun _ h => h) Try.underlying23 rfl (by rw [arrV_size]; exact sizeT)) H49.out ?_
        try simp only [Act.put, List.setIfInBounds_toArray, List.set_cons_zero, List.set_cons_succ]
        refine wpAnyH_ready (rs := [33]) (by kernel_rfl) (by simp) ?_
        refine AllReadyH.cons (o := { dst := some 36, op := Go.Op.call { callee := Go.Callee.value (Go.Operand.func 14), args := #[Go.Operand.tmp 35, Go.Operand.const (Go.Value.slice none 0 0)], argTypes := #[23, 24] }, type := 22, pos := "law.go:12", after := #[{ on := 32, ground := Go.Ground.data }, { on := 31, ground := Go.Ground.chain }, { on := 31, ground := Go.Ground.guard }], guard := some (31, true) }) rfl (fun K hK => ?_) AllReadyH.nil
        go_simp
        refine (of_any tabN tabN_all none 0 0 [] _ (Bytes.nil _ _ _) (by simp [maxLen])).mono ?_
        rintro e W50 ⟨rfl, a50⟩
        have A50 := Lib.hid a50
        clear a50
        go_wp2_with (fail)
        have h50 : Whole W50 g 23 (arrV tabN) := H49.out.after' A50.out
        have b50 : Below w.heap.size w W50 := B49.out.trans (A50.out.mono B49.out.size)
        refine hK.out _ _ h50 (fun _ => ?_)
        clear hK K A50
        try simp only [Act.put, List.setIfInBounds_toArray, List.set_cons_zero, List.set_cons_succ]
        have B50 := Lib.hid b50
        have H50 := Lib.hid h50
        clear b50 h50
        refine wpAnyH_take (i := 34) (oi := { dst := some 37, op := Go.Op.binOp Go.BinOp.eql 22 (Go.Operand.tmp 36) (Go.Operand.const (Go.Value.int Go.IntKind.u32 0)) 22, type := 4, pos := "law.go:12", after := #[{ on := 33, ground := Go.Ground.data }, { on := 31, ground := Go.Ground.guard }], guard := some (31, true) }) (v := .bool true) rfl (by kernel_rfl) (by kernel_rfl) (by kernel_rfl) (fun _ _ _ h => h) (Or.inl ⟨by rfl, ?_⟩) H50.out ?_
        · intro w' hSw; clear hSw; go_simp
        try simp only [Act.put, List.setIfInBounds_toArray, List.set_cons_zero, List.set_cons_succ]
        refine wpAnyH_take (i := 35) (oi := { dst := some 38, op := Go.Op.pick (Go.Operand.tmp 34) (Go.Operand.tmp 37) (Go.Operand.const (Go.Value.bool false)), type := 4, pos := "law.go:12", after := #[{ on := 31, ground := Go.Ground.data }, { on := 34, ground := Go.Ground.data }], guard := none }) (v := .bool true) rfl (by kernel_rfl) (by kernel_rfl) (by kernel_rfl) (fun _ _ _ h => h) (Or.inl ⟨by rfl, ?_⟩) H50.out ?_
        · intro w' hSw; clear hSw; go_simp
        try simp only [Act.put, List.setIfInBounds_toArray, List.set_cons_zero, List.set_cons_succ]
        refine wpAnyH_take (i := 36) (oi := { dst := some 0, op := Go.Op.assign (Go.Operand.tmp 38), type := 4, pos := "law.go:12", after := #[{ on := 35, ground := Go.Ground.data }, { on := 33, ground := Go.Ground.chain }, { on := 0, ground := Go.Ground.phase }, { on := 1, ground := Go.Ground.phase }, { on := 2, ground := Go.Ground.phase }, { on := 3, ground := Go.Ground.phase }, { on := 4, ground := Go.Ground.phase }, { on := 5, ground := Go.Ground.phase }, { on := 6, ground := Go.Ground.phase }, { on := 7, ground := Go.Ground.phase }, { on := 8, ground := Go.Ground.phase }, { on := 9, ground := Go.Ground.phase }, { on := 10, ground := Go.Ground.phase }, { on := 11, ground := Go.Ground.phase }, { on := 12, ground := Go.Ground.phase }, { on := 13, ground := Go.Ground.phase }, { on := 14, ground := Go.Ground.phase }, { on := 15, ground := Go.Ground.phase }, { on := 16, ground := Go.Ground.phase }, { on := 17, ground := Go.Ground.phase }, { on := 18, ground := Go.Ground.phase }, { on := 19, ground := Go.Ground.phase }, { on := 20, ground := Go.Ground.phase }, { on := 21, ground := Go.Ground.phase }, { on := 22, ground := Go.Ground.phase }, { on := 23, ground := Go.Ground.phase }, { on := 24, ground := Go.Ground.phase }, { on := 25, ground := Go.Ground.phase }, { on := 26, ground := Go.Ground.phase }, { on := 27, ground := Go.Ground.phase }, { on := 28, ground := Go.Ground.phase }, { on := 29, ground := Go.Ground.phase }, { on := 30, ground := Go.Ground.phase }, { on := 31, ground := Go.Ground.phase }, { on := 32, ground := Go.Ground.phase }, { on := 33, ground := Go.Ground.phase }, { on := 34, ground := Go.Ground.phase }, { on := 35, ground := Go.Ground.phase }], guard := none }) (v := .bool true) rfl (by kernel_rfl) (by kernel_rfl) (by kernel_rfl) (fun _ _ _ h => h) (Or.inl ⟨by rfl, ?_⟩) H50.out ?_
        · intro w' hSw; clear hSw; go_simp
        try simp only [Act.put, List.setIfInBounds_toArray, List.set_cons_zero]
        refine wpAnyH_done (by kernel_rfl) ?_ _
        refine NoPanic.normal ?_
        have bz := B50.out
        go_wp2_with (fail)
        go_ret
        exact ⟨rfl, bz⟩
      exact AllReadyH.nil
    refine AllReadyH.cons (o := { dst := some 30, op := Go.Op.convert 24 24 (Go.Operand.tmp 29), type := 24, pos := "law.go:12", after := #[{ on := 26, ground := Go.Ground.data }, { on := 20, ground := Go.Ground.guard }], guard := some (20, true) }) rfl (fun K hK => ?_) ?_
    · skip
      obtain ⟨W51, r51, n51, x51, y51⟩ := conv_mark (n := 5) (c := 5) N35x35.out
      have h51 : Whole W51 g 23 (arrV tabN) := H35.out.same (y51 g (by omega))
      have b51 : Below w.heap.size w W51 := B35.out.trans (x51.mono (by omega))
      clear x51 y51
      have N51 := Lib.hid n51
      go_simp
      refine hK.out _ _ h51 (fun _ => ?_)
      clear hK K r51 N51
      try simp only [Act.put, List.setIfInBounds_toArray, List.set_cons_zero, List.set_cons_succ]
      have B51 := Lib.hid b51
      have H51 := Lib.hid h51
      clear b51 h51
      have N51x51 := Lib.hid n51
      clear n51
      refine wpAnyH_ready (rs := [23]) (by kernel_rfl) (by simp) ?_
      refine AllReadyH.cons (o := { dst := some 26, op := Go.Op.buildSlice 24 4 #[(0, Go.Operand.const (Go.Value.int Go.IntKind.u8 49)), (1, Go.Operand.const (Go.Value.int Go.IntKind.u8 50)), (2, Go.Operand.const (Go.Value.int Go.IntKind.u8 51)), (3, Go.Operand.const (Go.Value.int Go.IntKind.u8 52))], type := 24, pos := "law.go:12", after := #[{ on := 20, ground := Go.Ground.guard }], guard := some (20, true) }) rfl (fun K hK => ?_) AllReadyH.nil
      go_simp
      have n52 : Whole (W51.alloc (.cells #[.int .u8 49, .int .u8 50, .int .u8 51, .int .u8 52] 5)) W51.heap.size 5 #[.int .u8 49, .int .u8 50, .int .u8 51, .int .u8 52] := Whole.made W51 _ _
      have b52 : Below w.heap.size w (W51.alloc (.cells #[.int .u8 49, .int .u8 50, .int .u8 51, .int .u8 52] 5)) := B51.out.alloc B51.out.size _
      have h52 : Whole (W51.alloc (.cells #[.int .u8 49, .int .u8 50, .int .u8 51, .int .u8 52] 5)) g 23 (arrV tabN) := H51.out.alloc _
      have g52 : g < W51.heap.size := H51.out.lt
      have mword552 := N51x51.out.alloc (.cells #[.int .u8 49, .int .u8 50, .int .u8 51, .int .u8 52] 5)
      have lword552 : i35 < W51.heap.size := N51x51.out.lt
      refine hK.out _ _ h52 (fun _ => ?_)
      clear hK K
      try simp only [Act.put, List.setIfInBounds_toArray, List.set_cons_zero, List.set_cons_succ]
      generalize W51.alloc (.cells #[.int .u8 49, .int .u8 50, .int .u8 51, .int .u8 52] 5) = W52 at *
      generalize W51.heap.size = i52 at *
      have B52 := Lib.hid b52
      have H52 := Lib.hid h52
      clear b52 h52
      have MWORD552x52 := Lib.hid mword552
      clear mword552
      have N52x52 := Lib.hid n52
      clear n52
      refine wpAnyH_ready (rs := [24]) (by kernel_rfl) (by simp) ?_
      refine AllReadyH.cons (o := { dst := some 27, op := Go.Op.convert 24 24 (Go.Operand.tmp 26), type := 24, pos := "law.go:12", after := #[{ on := 23, ground := Go.Ground.data }, { on := 20, ground := Go.Ground.guard }], guard := some (20, true) }) rfl (fun K hK => ?_) AllReadyH.nil
      obtain ⟨W53, r53, n53, x53, y53⟩ := conv_mark (n := 4) (c := 4) N52x52.out
      have h53 : Whole W53 g 23 (arrV tabN) := H52.out.same (y53 g (by omega))
      have b53 : Below w.heap.size w W53 := B52.out.trans (x53.mono (by omega))
      have mword553 := MWORD552x52.out.same (y53 i35 (by omega))
      clear x53 y53
      have N53 := Lib.hid n53
      go_simp
      refine hK.out _ _ h53 (fun _ => ?_)
      clear hK K r53 N53
      try simp only [Act.put, List.setIfInBounds_toArray, List.set_cons_zero, List.set_cons_succ]
      have B53 := Lib.hid b53
      have H53 := Lib.hid h53
      clear b53 h53
      have MWORD553x53 := Lib.hid mword553
      clear mword553
      have N53x53 := Lib.hid n53
      clear n53
      refine wpAnyH_ready (rs := [25]) (by kernel_rfl) (by simp) ?_
      refine AllReadyH.cons (o := { dst := some 28, op := Go.Op.call { callee := Go.Callee.value (Go.Operand.func 14), args := #[Go.Operand.tmp 25, Go.Operand.tmp 27], argTypes := #[23, 24] }, type := 22, pos := "law.go:12", after := #[{ on := 22, ground := Go.Ground.data }, { on := 24, ground := Go.Ground.data }, { on := 20, ground := Go.Ground.chain }, { on := 20, ground := Go.Ground.guard }], guard := some (20, true) }) rfl (fun K hK => ?_) AllReadyH.nil
      go_simp
      refine (of_any tabN tabN_all _ 4 4 word4 _ (N53x53.out.bytes word4 rfl rfl) (by simp [maxLen])).mono ?_
      rintro e W54 ⟨rfl, a54⟩
      have A54 := Lib.hid a54
      clear a54
      go_wp2_with (fail)
      have h54 : Whole W54 g 23 (arrV tabN) := H53.out.after' A54.out
      have b54 : Below w.heap.size w W54 := B53.out.trans (A54.out.mono B53.out.size)
      have mword554 := MWORD553x53.out.after' A54.out
      refine hK.out _ _ h54 (fun _ => ?_)
      clear hK K A54
      try simp only [Act.put, List.setIfInBounds_toArray, List.set_cons_zero, List.set_cons_succ]
      have B54 := Lib.hid b54
      have H54 := Lib.hid h54
      clear b54 h54
      have MWORD554x54 := Lib.hid mword554
      clear mword554
      refine wpAnyH_ready (rs := [28]) (by kernel_rfl) (by simp) ?_
      refine AllReadyH.cons (o := { dst := some 31, op := Go.Op.call { callee := Go.Callee.value (Go.Operand.func 12), args := #[Go.Operand.tmp 24, Go.Operand.tmp 28, Go.Operand.tmp 30], argTypes := #[23, 22, 24] }, type := 22, pos := "law.go:12", after := #[{ on := 21, ground := Go.Ground.data }, { on := 25, ground := Go.Ground.data }, { on := 27, ground := Go.Ground.data }, { on := 25, ground := Go.Ground.chain }, { on := 20, ground := Go.Ground.guard }], guard := some (20, true) }) rfl (fun K hK => ?_) AllReadyH.nil
      go_simp
      refine (on_any tabN tabN_all (onN tabN 0 word4) (onN_lt _ _ _) _ 5 5 word5 _ (MWORD554x54.out.bytes word5 rfl rfl) (by simp [maxLen])).mono ?_
      rintro e W55 ⟨rfl, a55⟩
      have A55 := Lib.hid a55
      clear a55
      go_wp2_with (fail)
      have h55 : Whole W55 g 23 (arrV tabN) := H54.out.after' A55.out
      have b55 : Below w.heap.size w W55 := B54.out.trans (A55.out.mono B54.out.size)
      refine hK.out _ _ h55 (fun _ => ?_)
      clear hK K A55
      try simp only [Act.put, List.setIfInBounds_toArray, List.set_cons_zero, List.set_cons_succ]
      have B55 := Lib.hid b55
      have H55 := Lib.hid h55
      clear b55 h55
      refine wpAnyH_take (i := 29) (oi := { dst := some 32, op := Go.Op.binOp Go.BinOp.eql 22 (Go.Operand.tmp 31) (Go.Operand.const (Go.Value.int Go.IntKind.u32 3808858755)) 22, type := 4, pos := "law.go:12", after := #[{ on := 28, ground := Go.Ground.data }, { on := 20, ground := Go.Ground.guard }], guard := some (20, true) }) (v := .bool true) rfl (by kernel_rfl) (by kernel_rfl) (by kernel_rfl) (fun _ _ _ h => h) (Or.inl ⟨by rfl, ?_⟩) H55.out ?_
      · intro w' hSw; clear hSw; go_simp
      try simp only [Act.put, List.setIfInBounds_toArray, List.set_cons_zero, List.set_cons_succ]
      refine wpAnyH_take (i := 30) (oi := { dst := some 33, op := Go.Op.pick (Go.Operand.tmp 23) (Go.Operand.tmp 32) (Go.Operand.const (Go.Value.bool false)), type := 4, pos := "law.go:12", after := #[{ on := 20, ground := Go.Ground.data }, { on := 29, ground := Go.Ground.data }], guard := none }) (v := .bool true) rfl (by kernel_rfl) (by kernel_rfl) (by kernel_rfl) (fun _ _ _ h => h) (Or.inl ⟨by rfl, ?_⟩) H55.out ?_
      · intro w' hSw; clear hSw; go_simp
      try simp only [Act.put, List.setIfInBounds_toArray, List.set_cons_zero, List.set_cons_succ]
      refine wpAnyH_take (i := 31) (oi := { dst := some 34, op := Go.Op.move (Go.Operand.tmp 33), type := 4, pos := "law.go:12", after := #[{ on := 30, ground := Go.Ground.data }, { on := 28, ground := Go.Ground.chain }], guard := none }) (v := .bool true) rfl (by kernel_rfl) (by kernel_rfl) (by kernel_rfl) (fun _ _ _ h => h) (Or.inl ⟨by rfl, ?_⟩) H55.out ?_
      · intro w' hSw; clear hSw; go_simp
      try simp only [Act.put, List.setIfInBounds_toArray, List.set_cons_zero, List.set_cons_succ]
      refine wpAnyH_take (i := 32) (oi := { dst := some 35, op := Go.Op.load 23 (Go.Operand.tmp 1), type := 23, pos := "law.go:12", after := #[{ on := 31, ground := Go.Ground.guard }], guard := some (31, true) }) (v := .agg (arrV tabN)) rfl (by kernel_rfl) (by kernel_rfl) (by kernel_rfl) (fun _ _ _ h => h) (take_whole (by rfl) 23 _ rfl g rfl 23 (arrV tabN) _ (fun _ h => h) Try.underlying23 rfl (by rw [arrV_size]; exact sizeT)) H55.out ?_
      try simp only [Act.put, List.setIfInBounds_toArray, List.set_cons_zero, List.set_cons_succ]
      refine wpAnyH_ready (rs := [33]) (by kernel_rfl) (by simp) ?_
      refine AllReadyH.cons (o := { dst := some 36, op := Go.Op.call { callee := Go.Callee.value (Go.Operand.func 14), args := #[Go.Operand.tmp 35, Go.Operand.const (Go.Value.slice none 0 0)], argTypes := #[23, 24] }, type := 22, pos := "law.go:12", after := #[{ on := 32, ground := Go.Ground.data }, { on := 31, ground := Go.Ground.chain }, { on := 31, ground := Go.Ground.guard }], guard := some (31, true) }) rfl (fun K hK => ?_) AllReadyH.nil
      go_simp
      refine (of_any tabN tabN_all none 0 0 [] _ (Bytes.nil _ _ _) (by simp [maxLen])).mono ?_
      rintro e W56 ⟨rfl, a56⟩
      have A56 := Lib.hid a56
      clear a56
      go_wp2_with (fail)
      have h56 : Whole W56 g 23 (arrV tabN) := H55.out.after' A56.out
      have b56 : Below w.heap.size w W56 := B55.out.trans (A56.out.mono B55.out.size)
      refine hK.out _ _ h56 (fun _ => ?_)
      clear hK K A56
      try simp only [Act.put, List.setIfInBounds_toArray, List.set_cons_zero, List.set_cons_succ]
      have B56 := Lib.hid b56
      have H56 := Lib.hid h56
      clear b56 h56
      refine wpAnyH_take (i := 34) (oi := { dst := some 37, op := Go.Op.binOp Go.BinOp.eql 22 (Go.Operand.tmp 36) (Go.Operand.const (Go.Value.int Go.IntKind.u32 0)) 22, type := 4, pos := "law.go:12", after := #[{ on := 33, ground := Go.Ground.data }, { on := 31, ground := Go.Ground.guard }], guard := some (31, true) }) (v := .bool true) rfl (by kernel_rfl) (by kernel_rfl) (by kernel_rfl) (fun _ _ _ h => h) (Or.inl ⟨by rfl, ?_⟩) H56.out ?_
      · intro w' hSw; clear hSw; go_simp
      try simp only [Act.put, List.setIfInBounds_toArray, List.set_cons_zero, List.set_cons_succ]
      refine wpAnyH_take (i := 35) (oi := { dst := some 38, op := Go.Op.pick (Go.Operand.tmp 34) (Go.Operand.tmp 37) (Go.Operand.const (Go.Value.bool false)), type := 4, pos := "law.go:12", after := #[{ on := 31, ground := Go.Ground.data }, { on := 34, ground := Go.Ground.data }], guard := none }) (v := .bool true) rfl (by kernel_rfl) (by kernel_rfl) (by kernel_rfl) (fun _ _ _ h => h) (Or.inl ⟨by rfl, ?_⟩) H56.out ?_
      · intro w' hSw; clear hSw; go_simp
      try simp only [Act.put, List.setIfInBounds_toArray, List.set_cons_zero, List.set_cons_succ]
      refine wpAnyH_take (i := 36) (oi := { dst := some 0, op := Go.Op.assign (Go.Operand.tmp 38), type := 4, pos := "law.go:12", after := #[{ on := 35, ground := Go.Ground.data }, { on := 33, ground := Go.Ground.chain }, { on := 0, ground := Go.Ground.phase }, { on := 1, ground := Go.Ground.phase }, { on := 2, ground := Go.Ground.phase }, { on := 3, ground := Go.Ground.phase }, { on := 4, ground := Go.Ground.phase }, { on := 5, ground := Go.Ground.phase }, { on := 6, ground := Go.Ground.phase }, { on := 7, ground := Go.Ground.phase }, { on := 8, ground := Go.Ground.phase }, { on := 9, ground := Go.Ground.phase }, { on := 10, ground := Go.Ground.phase }, { on := 11, ground := Go.Ground.phase }, { on := 12, ground := Go.Ground.phase }, { on := 13, ground := Go.Ground.phase }, { on := 14, ground := Go.Ground.phase }, { on := 15, ground := Go.Ground.phase }, { on := 16, ground := Go.Ground.phase }, { on := 17, ground := Go.Ground.phase }, { on := 18, ground := Go.Ground.phase }, { on := 19, ground := Go.Ground.phase }, { on := 20, ground := Go.Ground.phase }, { on := 21, ground := Go.Ground.phase }, { on := 22, ground := Go.Ground.phase }, { on := 23, ground := Go.Ground.phase }, { on := 24, ground := Go.Ground.phase }, { on := 25, ground := Go.Ground.phase }, { on := 26, ground := Go.Ground.phase }, { on := 27, ground := Go.Ground.phase }, { on := 28, ground := Go.Ground.phase }, { on := 29, ground := Go.Ground.phase }, { on := 30, ground := Go.Ground.phase }, { on := 31, ground := Go.Ground.phase }, { on := 32, ground := Go.Ground.phase }, { on := 33, ground := Go.Ground.phase }, { on := 34, ground := Go.Ground.phase }, { on := 35, ground := Go.Ground.phase }], guard := none }) (v := .bool true) rfl (by kernel_rfl) (by kernel_rfl) (by kernel_rfl) (fun _ _ _ h => h) (Or.inl ⟨by rfl, ?_⟩) H56.out ?_
      · intro w' hSw; clear hSw; go_simp
      try simp only [Act.put, List.setIfInBounds_toArray, List.set_cons_zero]
      refine wpAnyH_done (by kernel_rfl) ?_ _
      refine NoPanic.normal ?_
      have bz := B56.out
      go_wp2_with (fail)
      go_ret
      exact ⟨rfl, bz⟩
    exact AllReadyH.nil
  exact AllReadyH.nil
end Go.Proofs.Ytefempiefkcccaa
