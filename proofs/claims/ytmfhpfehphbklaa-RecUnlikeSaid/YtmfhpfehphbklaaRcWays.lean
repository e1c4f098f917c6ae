/-
  The walk of rec.ways: a new map of four kinds, and what is looked up in it.
-/
import Derived.Test.YtmfhpfehphbklaaRcWithin
import Derived.WideMake
namespace Go.Proofs.Ytmfhpfehphbklaa
open Go.RowKit

def fnV (f : FuncId) : Value := .func (.func f) #[] #[]
def wayV (a b c : FuncId) : Value := .agg #[fnV a, fnV b, fnV c]
def wPiece : Value := wayV 68 69 70
def wRoot : Value := wayV 71 72 73
def wInline : Value := wayV 74 75 76
def wTomb : Value := wayV 77 78 79
def wNone : Value := .agg #[.nilFunc, .nilFunc, .nilFunc]
def entV (k : Int) (v : Value) (b : Nat) : MapEntry := { key := .int .i64 k, val := v, born := b }
def ways4 : Array MapEntry := #[entV 1 wPiece 0, entV 2 wRoot 1, entV 3 wInline 2, entV 4 wTomb 3]

theorem map_new (w : World) : ∃ w', (Instr.makeMap 74 none).run Try.prog w = .ok (.map (some w.heap.size)) w' ∧ w'.heap[w.heap.size]? = some (.map #[] 0) ∧ Below w.heap.size w w' :=
  ⟨_, run_makeMap _ w, heap_alloc_new w _, grows_alloc _ _⟩
theorem map_more {w : World} {g : Nat} {es : Array MapEntry} {n : Nat} (h : w.heap[g]? = some (.map es n)) (k : Int) (v : Value) (hf : Instr.findNow (.int .i64) (.int .i64 k) es.toList 0 = some none) :
    ∃ w', (Instr.mapUpdate 74 (.map (some g)) (.int .i64 k) v).run Try.prog w = .ok () w' ∧ w'.heap[g]? = some (.map (es.push (entV k v n)) (n + 1)) ∧ Below g w w' := by
  have hc : (Instr.checkKey false 10000 3 (.int .i64 k)).run Try.prog w = .ok () w := MapKept.run_checkKey (k := .int .i64 k) Try.underlying3 (by simp [MapKept.IsKey]) false 9999
  refine ⟨{ w with heap := w.heap.setIfInBounds g (.map (es.push (entV k v n)) (n + 1)) }, ?_, (MapKept.heap_set h).1, ⟨rfl, rfl, rfl, by simp, fun k hk => (MapKept.heap_set h).2 k (by omega)⟩⟩
  simp [Instr.mapUpdate, run_underlying Try.underlying74, MapKept.run_getObj_map h, hc, MapKept.run_findKey Try.underlying3 hf, MapKept.run_setObj_map _ h, Result.andThen, entV]

/-- Block g is the map of all kinds' ways. -/
def WaysAt (w : World) (g : Nat) : Prop := w.heap[g]? = some (.map ways4 4)
theorem WaysAt.grow {w w' : World} {g : Nat} (h : WaysAt w g) (hg : Grows w w') : WaysAt w' g := by
  unfold WaysAt at *
  rw [hg.block g (Array.getElem?_eq_some_iff.1 h).1]
  exact h

theorem ways_any (w : World) :
    Calls Try.prog 40 #[] w fun e w' => e = .returned (.map (some w.heap.size)) ∧ WaysAt w' w.heap.size ∧ Below w.heap.size w w' := by
  obtain ⟨w1, r1, h1, b1⟩ := map_new w
  obtain ⟨w2, r2, h2, b2⟩ := map_more h1 1 wPiece rfl
  obtain ⟨w3, r3, h3, b3⟩ := map_more h2 2 wRoot rfl
  obtain ⟨w4, r4, h4, b4⟩ := map_more h3 3 wInline rfl
  obtain ⟨w5, r5, h5, b5⟩ := map_more h4 4 wTomb rfl
  have HB := Lib.hid (show WaysAt w5 w.heap.size ∧ Below w.heap.size w w5 from ⟨h5, (((b1.trans b2).trans b3).trans b4).trans b5⟩)
  clear h1 h2 h3 h4 h5 b1 b2 b3 b4 b5
  unfold wPiece wayV fnV at r2
  unfold wRoot wayV fnV at r3
  unfold wInline wayV fnV at r4
  unfold wTomb wayV fnV at r5
  go_enter Try.func40, Try.ntmps40
  go_wp2_with (fail)
  go_ret
  exact ⟨rfl, HB.out⟩

/-- What is looked up. -/
theorem look_any {w : World} {g : Nat} (h : WaysAt w g) (k : Int) (v : Value) (b : Bool) (hf : Instr.findNow (.int .i64) (.int .i64 k) ways4.toList 0 = some (if b then some ((k - 1).toNat, v) else none)) (hv : b = false → v = wNone) :
    (Instr.lookup 74 (.map (some g)) (.int .i64 k) true).run Try.prog w = .ok (.tuple #[v, .bool b]) w := by
  have hc : (Instr.checkKey false 10000 3 (.int .i64 k)).run Try.prog w = .ok () w := MapKept.run_checkKey (k := .int .i64 k) Try.underlying3 (by simp [MapKept.IsKey]) false 9999
  have he : ways4.isEmpty = false := rfl
  have hz : (zeroValue 72).run Try.prog w = .ok wNone w := by kernel_rfl
  cases b with
  | true =>
    simp [Instr.lookup, run_underlying Try.underlying74, MapKept.run_getObj_map h, he, hc, MapKept.run_findKey Try.underlying3 hf, Result.andThen]
  | false =>
    obtain rfl := hv rfl
    simp [Instr.lookup, run_underlying Try.underlying74, MapKept.run_getObj_map h, he, hc, MapKept.run_findKey Try.underlying3 hf, Result.andThen, hz]

def wayOf (k : Int) : Value := if k = 1 then wPiece else if k = 2 then wRoot else if k = 3 then wInline else if k = 4 then wTomb else wNone
theorem look_is {w : World} {g : Nat} (h : WaysAt w g) (k : Int) : (Instr.lookup 74 (.map (some g)) (.int .i64 k) true).run Try.prog w = .ok (.tuple #[wayOf k, .bool (decide (k = 1 ∨ k = 2 ∨ k = 3 ∨ k = 4))]) w := by
  by_cases h1 : k = 1
  · subst h1; exact look_any h 1 wPiece true rfl (fun h => by cases h)
  by_cases h2 : k = 2
  · subst h2; exact look_any h 2 wRoot true rfl (fun h => by cases h)
  by_cases h3 : k = 3
  · subst h3; exact look_any h 3 wInline true rfl (fun h => by cases h)
  by_cases h4 : k = 4
  · subst h4; exact look_any h 4 wTomb true rfl (fun h => by cases h)
  rw [decide_eq_false (by omega), wayOf, if_neg h1, if_neg h2, if_neg h3, if_neg h4]
  refine look_any h k wNone false ?_ (fun _ => rfl)
  simp [ways4, entV, Instr.findNow, Instr.sameNow, beq_eq_false_iff_ne.2 h1, beq_eq_false_iff_ne.2 h2, beq_eq_false_iff_ne.2 h3, beq_eq_false_iff_ne.2 h4]
end Go.Proofs.Ytmfhpfehphbklaa
