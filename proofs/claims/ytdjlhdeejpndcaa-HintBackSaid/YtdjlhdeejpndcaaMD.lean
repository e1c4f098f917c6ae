/-
  Texts that the statements' proofs lean on, one behind the other.
-/
import Derived.Test.YtdjlhdeejpndcaaRcPlain
import Derived.Test.YtdjlhdeejpndcaaSteps
import Derived.LoopTactic
import Derived.IntWalk
import Derived.OwnWalk
import Derived.Lib.Hide
import Derived.MapKept
import Derived.Laws.BitsAllLaws
import Derived.Lib.AppendStr
/-
  The walks of rec's source: take, number, rest, key.
-/
namespace Go.Proofs.Ytdjlhdeejpndcaa
open Go.RowKit
set_option linter.unusedSimpArgs false

/-- A slice of bytes that lies below block g. -/
structure Low (w : World) (g : Nat) (A : Option Addr) (n c : Nat) (bs : List UInt8) : Prop where
  bytes : Bytes w g A n bs
  cap : n ≤ c
  bare : A = none → c = 0
theorem Low.sl {w : World} {g : Nat} {A : Option Addr} {n c : Nat} {bs : List UInt8} (h : Low w g A n c bs) (hg : g ≤ w.heap.size) : Sl w A n c bs := ⟨h.bytes.wider hg, h.cap, h.bare⟩
theorem Low.carry {w w' : World} {g : Nat} {A : Option Addr} {n c : Nat} {bs : List UInt8} (h : Low w g A n c bs) (hb : Below g w w') : Low w' g A n c bs := ⟨h.bytes.below hb, h.cap, h.bare⟩
/-- Nothing but block g has turned. -/
def Turns (g : Nat) (w w' : World) : Prop := w.grownBy w' (some g)

theorem Turns.refl (g : Nat) (w : World) : Turns g w w := World.grownBy.refl w _
theorem Turns.trans {g : Nat} {a b c : World} (h : Turns g a b) (k : Turns g b c) : Turns g a c := World.grownBy.trans h k
theorem Turns.below {g : Nat} {w w' : World} (h : Turns g w w') (hg : g ≤ w.heap.size) : Below g w w' := (Below.refl _ w).grown h hg (fun k hk => by injection hk with hk; omega)

theorem Turns.set {g : Nat} {w : World} (i : Nat) (u : Value) : Turns g w (w.setCell ⟨g, i, none⟩ u) :=
  ⟨rfl, rfl, rfl, by simp, fun k _ hne => heap_setCell_other w _ k u (fun e => hne (by rw [e]))⟩
theorem Turns.grow {g : Nat} {w w' : World} (h : Grows w w') : Turns g w w' := ⟨h.os, h.tape, h.output, h.size, fun k hk _ => h.block k hk⟩
theorem Low.nil (w : World) (g : Nat) : Low w g none 0 0 [] := ⟨Bytes.nil _ _ _, Nat.le_refl _, fun _ => rfl⟩
theorem Low.first {w : World} {g : Nat} {A : Option Addr} {n c : Nat} {bs : List UInt8} (h : Low w g A n c bs) {k : Nat} (hk : k ≤ n) : Low w g A k c (bs.take k) := ⟨h.bytes.first hk, Nat.le_trans hk h.cap, h.bare⟩
theorem Low.behind {w : World} {g : Nat} {A : Option Addr} {n c : Nat} {bs : List UInt8} (h : Low w g A n c bs) {k : Nat} (hk : k ≤ n) : Low w g (if c = k then A else A.map (·.add k)) (n - k) (c - k) (bs.drop k) := by
  refine ⟨?_, by have := h.cap; omega, fun e => ?_⟩
  · have h2 := Row.behind (k := k) (cap := c) h.bytes hk h.cap
    unfold Bytes
    rw [List.map_drop]
    exact h2
  · split at e
    · omega
    · have : A = none := by simpa using e
      have := h.bare this
      omega
theorem low_set {w : World} {g : Nat} {A : Option Addr} {n c : Nat} {bs : List UInt8} (h : Low w g A n c bs) (i : Nat) (u : Value) : Low (w.setCell ⟨g, i, none⟩ u) g A n c bs := h.carry (Below.setCell (p := ⟨g, i, none⟩) (Below.refl g w) (Nat.le_refl g) u)

end Go.Proofs.Ytdjlhdeejpndcaa

/-
  The walks of package rec's questions: within, Key, rightId, withoutPieces, rightTomb, rightInline, rightPiece.
-/
namespace Go.Proofs.Ytdjlhdeejpndcaa
set_option linter.unusedSimpArgs false
open Go.RowKit

theorem str_data (s : ByteArray) : s.data.size = s.size := rfl
theorem str_none (s : ByteArray) : s = ByteArray.empty ↔ s.size < 1 := by
  constructor
  · rintro rfl; exact Nat.zero_lt_one
  · intro h
    apply ByteArray.ext
    exact Array.eq_empty_of_size_eq_zero (by rw [str_data]; omega)
theorem str_list (s : ByteArray) : s.toList = [] ↔ s.size < 1 := by
  rw [ByteArray.toList_eq, Array.toList_eq_nil_iff, ← Array.size_eq_zero_iff, str_data]
  omega

theorem within_any (a lo hi : Int) (w : World) :
    Calls Try.prog 40 #[.int .i64 a, .int .i64 lo, .int .i64 hi] w fun e w' => e = .returned (.bool (decide (lo ≤ a ∧ a ≤ hi))) ∧ Below w.heap.size w w' := by
  go_enter Try.func40, Try.ntmps40
  go_wp2
  all_goals
    go_ret
    refine ⟨ret_bool (by rw [Bool.eq_iff_iff]; simp [str_list, -Nat.lt_one_iff] at *; omega), ?_⟩
    first | exact Below.refl _ _ | exact grows_alloc _ _ | exact Grows.trans (grows_alloc _ _) (grows_alloc _ _)

theorem key_any (s : ByteArray) (w : World) :
    Calls Try.prog 25 #[.string s] w fun e w' => e = .returned (.bool (decide (1 ≤ s.size ∧ s.size ≤ 64))) ∧ Below w.heap.size w w' := by
  go_enter Try.func25, Try.ntmps25
  go_wp2
  all_goals
    go_ret
    refine ⟨ret_bool (by rw [Bool.eq_iff_iff]; simp [str_list, -Nat.lt_one_iff] at *; omega), ?_⟩
    first | exact Below.refl _ _ | exact grows_alloc _ _ | exact Grows.trans (grows_alloc _ _) (grows_alloc _ _)

end Go.Proofs.Ytdjlhdeejpndcaa

/-
  The walk of rec's number (of a source).
-/
namespace Go.Proofs.Ytdjlhdeejpndcaa
open Go.RowKit
set_option linter.unusedSimpArgs false

theorem valB_next (bs : List UInt8) (j : Nat) (h : j < bs.length) : valB (bs.take (j + 1)) = 256 * valB (bs.take j) + ((bs.getD j 0).toNat : Int) := by
  rw [List.take_succ_eq_append_getElem h, valB_snoc]
  simp [h]
theorem i64_or_nat (a b : Nat) (ha : a < 9223372036854775808) (hb : b < 9223372036854775808) : bits .or .i64 (a : Int) (b : Int) = ((a ||| b : Nat) : Int) := by
  have hx : a ||| b < 2 ^ 63 := Nat.or_lt_two_pow (by omega) (by omega)
  show IntKind.i64.wrap ((BitVec.ofInt 64 (a : Int) ||| BitVec.ofInt 64 (b : Int)).toNat : Int) = _
  rw [BitVec.toNat_or, ofInt_u64 a (by omega), ofInt_u64 b (by omega), IntKind.wrap_i64]
  omega
theorem or_byte (v : Int) (b : Nat) (h0 : 0 ≤ v) (h1 : v < 1099511627776) (hb : b < 256) : bits BinOp.or IntKind.i64 (v * 256) (b : Int) = v * 256 + (b : Int) := by
  obtain ⟨n, rfl⟩ : ∃ n : Nat, v = (n : Int) := ⟨v.toNat, by omega⟩
  have e := i64_or_nat (n * 256) b (by omega) (by omega)
  have e2 : (n * 256 ||| b) = n * 256 + b := by
    have := Nat.two_pow_add_eq_or_of_lt (i := 8) (b := b) (by omega) n
    rw [show (2 : Nat) ^ 8 * n = n * 256 by omega] at this
    omega
  rw [e2] at e
  rw [show (n : Int) * 256 = ((n * 256 : Nat) : Int) by omega, e]
  omega
theorem valB_small (bs : List UInt8) (h : bs.length ≤ 6) : 0 ≤ valB bs ∧ valB bs < 281474976710656 := by
  have := valB_lt bs
  obtain e | e | e | e | e | e | e : bs.length = 0 ∨ bs.length = 1 ∨ bs.length = 2 ∨ bs.length = 3 ∨ bs.length = 4 ∨ bs.length = 5 ∨ bs.length = 6 := by omega
  all_goals
    rw [e] at this
    simp at this
    omega

end Go.Proofs.Ytdjlhdeejpndcaa

/-
  Slices of api.Loc: three cells each.
-/
namespace Go.Proofs.Ytdjlhdeejpndcaa
open Go.RowKit

def lcV (l : Lc) : List Value := [.int .i64 l.1, .int .i64 l.2.1, .int .i64 l.2.2]
def lcCells : List Lc → List Value
  | [] => []
  | l :: ls => lcV l ++ lcCells ls
theorem lcCells_length : ∀ ls : List Lc, (lcCells ls).length = 3 * ls.length
  | [] => rfl
  | l :: ls => by
    rw [lcCells, List.length_append, lcCells_length ls, List.length_cons]
    show 3 + _ = _
    omega
theorem lcCells_append : ∀ a b : List Lc, lcCells (a ++ b) = lcCells a ++ lcCells b
  | [], _ => rfl
  | l :: a, b => by rw [List.cons_append, lcCells, lcCells, lcCells_append a b, List.append_assoc]
theorem lcCells_get : ∀ (ls : List Lc) (i : Nat) (l : Lc), ls[i]? = some l →
    (lcCells ls)[3 * i]? = some (.int .i64 l.1) ∧ (lcCells ls)[3 * i + 1]? = some (.int .i64 l.2.1) ∧ (lcCells ls)[3 * i + 2]? = some (.int .i64 l.2.2)
  | l :: ls, 0, _, h => by
    simp only [List.getElem?_cons_zero, Option.some.injEq] at h
    subst h
    exact ⟨rfl, rfl, rfl⟩
  | l :: ls, i + 1, l', h => by
    obtain ⟨h1, h2, h3⟩ := lcCells_get ls i l' (by simpa using h)
    have e : ∀ k, (lcV l ++ lcCells ls)[3 + k]? = (lcCells ls)[k]? := fun k => by
      rw [List.getElem?_append_right (by simp [lcV])]
      simp [lcV]
    refine ⟨?_, ?_, ?_⟩
    · rw [show 3 * (i + 1) = 3 + 3 * i by omega]; exact (e _).trans h1
    · rw [show 3 * (i + 1) + 1 = 3 + (3 * i + 1) by omega]; exact (e _).trans h2
    · rw [show 3 * (i + 1) + 2 = 3 + (3 * i + 2) by omega]; exact (e _).trans h3
  | [], i, _, h => by simp at h

/-- A slice of places. -/
structure Locs (w : World) (A : Option Addr) (n c : Nat) (ls : List Lc) : Prop where
  len : ls.length = n
  cap : n ≤ c
  bare : A = none → c = 0
  row : Row w w.heap.size A (3 * n) (lcCells ls)
theorem Locs.grow {w w' : World} {A : Option Addr} {n c : Nat} {ls : List Lc} (hg : Grows w w') (h : Locs w A n c ls) : Locs w' A n c ls := ⟨h.len, h.cap, h.bare, hg.row h.row⟩
theorem Locs.nil (w : World) : Locs w none 0 0 [] := ⟨rfl, Nat.le_refl _, fun _ => rfl, Row.nil _ _ _⟩
/-- Place i, in each world that has grown out of this one, at the addresses as a walk reckons them. -/
theorem Locs.spot {w : World} {A : Option Addr} {n c : Nat} {ls : List Lc} (h : Locs w A n c ls) {i : Nat} (hi : i < n) :
    ∃ ad, A = some ad ∧ (∀ w', Grows w w' → w'.cell? (ad.add (i * 3)) = some (.int .i64 (ls.getD i (0, 0, 0)).1)) ∧
      (∀ w', Grows w w' → w'.cell? { block := (ad.add (i * 3)).block, off := (ad.add (i * 3)).off + 1 } = some (.int .i64 (ls.getD i (0, 0, 0)).2.1)) ∧
      (∀ w', Grows w w' → w'.cell? { block := (ad.add (i * 3)).block, off := (ad.add (i * 3)).off + 2 } = some (.int .i64 (ls.getD i (0, 0, 0)).2.2)) := by
  have hl := h.len
  have ht : ls[i]? = some (ls.getD i (0, 0, 0)) := by
    rw [List.getElem?_eq_getElem (by omega)]
    simp [show i < ls.length by omega]
  obtain ⟨g1, g2, g3⟩ := lcCells_get ls i _ ht
  obtain ⟨ad, hA, _, c1⟩ := h.row.spot _ _ g1
  obtain ⟨ad2, hA2, _, c2⟩ := h.row.spot _ _ g2
  obtain ⟨ad3, hA3, _, c3⟩ := h.row.spot _ _ g3
  rw [hA] at hA2 hA3
  injection hA2 with hA2
  injection hA3 with hA3
  subst hA2 hA3
  have e1 : ad.add (3 * i) = ad.add (i * 3) := by rw [Nat.mul_comm]
  have e2 : ad.add (3 * i + 1) = { block := (ad.add (i * 3)).block, off := (ad.add (i * 3)).off + 1 } := by rw [Nat.mul_comm, ← add_twice, Addr.add_succ' (ad.add (i * 3)) 0]
  have e3 : ad.add (3 * i + 2) = { block := (ad.add (i * 3)).block, off := (ad.add (i * 3)).off + 2 } := by rw [Nat.mul_comm, ← add_twice, Addr.add_succ' (ad.add (i * 3)) 1]
  have up : ∀ (p : Addr) (v : Value), w.cell? p = some v → ∀ w', Grows w w' → w'.cell? p = some v := fun p v hp w' hg => (hg.cell (World.block_lt_of_cell? w _ hp)).trans hp
  rw [e1] at c1
  rw [e2] at c2
  rw [e3] at c3
  exact ⟨ad, hA, up _ _ c1, up _ _ c2, up _ _ c3⟩
theorem Locs.owned {w : World} {base : Nat} {e : TypeId} {A : Option Addr} {n c : Nat} {ls : List Lc} (hn : ls.length = n) (h : w.ownsRow base e 3 (.slice A n c) n (lcCells ls)) : Locs w A n c ls := by
  refine ⟨hn, ?_, ?_, ?_⟩
  · rcases h.2 with ⟨h1, h2⟩ | ⟨g, cap, _, h1, _, _, h2, _⟩
    · omega
    · injection h1 with _ _ h1; omega
  · intro hA
    rcases h.2 with ⟨h1, h2⟩ | ⟨g, cap, _, h1, _⟩
    · injection h1
    · injection h1 with h1 _ _; rw [hA] at h1; cases h1
  · refine ⟨by rw [lcCells_length, hn], fun k v hv => ?_⟩
    have hpos : 0 < n := by
      rcases Nat.eq_zero_or_pos n with h0 | h0
      · subst h0
        have : lcCells ls = [] := List.eq_nil_of_length_eq_zero (by rw [lcCells_length, hn])
        rw [this] at hv
        simp at hv
      · exact h0
    obtain ⟨g, cap, hval, _, hlt⟩ := h.form hpos
    injection hval with hA _ _
    subst hA
    exact ⟨_, rfl, hlt, h.cells (g := g) rfl k v hv⟩

/-- A record's cells in memory. -/
structure RcIn (w : World) (LA : Option Addr) (ln lc : Nat) (BA : Option Addr) (bn bc : Nat) (r : Rc) : Prop where
  locs : Locs w LA ln lc r.locs
  sl : Sl w BA bn bc r.b
theorem RcIn.grow {w w' : World} {LA : Option Addr} {ln lc : Nat} {BA : Option Addr} {bn bc : Nat} {r : Rc} (hg : Grows w w') (h : RcIn w LA ln lc BA bn bc r) : RcIn w' LA ln lc BA bn bc r := ⟨h.locs.grow hg, h.sl.grow hg⟩

theorem sumN_append : ∀ a b : List Lc, sumN (a ++ b) = sumN a + sumN b
  | [], b => by simp [sumN]
  | l :: a, b => by rw [List.cons_append, sumN, sumN, sumN_append a b]; omega
theorem take_lc (ls : List Lc) (k : Nat) (h : k < ls.length) : ls.take (k + 1) = ls.take k ++ [ls.getD k (0, 0, 0)] := by
  rw [List.take_succ_eq_append_getElem h]
  simp [h]
/-- What a loop over places knows, k of them seen. -/
def Seen (ls : List Lc) (k : Nat) (s : Int) : Prop := (∀ l ∈ ls.take k, LocOk l) ∧ sumN (ls.take k) = s
theorem Seen.start (ls : List Lc) : Seen ls 0 0 := ⟨fun l h => by simp at h, by simp [sumN]⟩
theorem Seen.next {ls : List Lc} {k : Nat} {s : Int} (h : Seen ls k s) (hk : k < ls.length) (ho : LocOk (ls.getD k (0, 0, 0))) : Seen ls (k + 1) (s + (ls.getD k (0, 0, 0)).2.2) := by
  unfold Seen
  rw [take_lc ls k hk]
  refine ⟨fun l hl => ?_, ?_⟩
  · rcases List.mem_append.1 hl with hl | hl
    · exact h.1 l hl
    · rw [List.mem_singleton] at hl
      rw [hl]; exact ho
  · rw [sumN_append, h.2]
    simp [sumN]
theorem Seen.ill {ls : List Lc} {k : Nat} (hk : k < ls.length) (ho : ¬ LocOk (ls.getD k (0, 0, 0))) (z : Int) : ¬ LocsOk ls z := fun h => ho (h.2.1 _ (by
  rw [List.getD_eq_getElem?_getD, List.getElem?_eq_getElem hk]
  exact List.getElem_mem hk))
theorem Seen.all {ls : List Lc} {s : Int} (h : Seen ls ls.length s) (hn : ls.length ≤ 512) (z : Int) : LocsOk ls z ↔ s = z := by
  obtain ⟨h1, h2⟩ := h
  rw [List.take_length] at h1 h2
  exact ⟨fun h => h2 ▸ h.2.2, fun h => ⟨hn, h1, h2.trans h⟩⟩
theorem sum_bound {ls : List Lc} (h : ∀ l ∈ ls, LocOk l) : 0 ≤ sumN ls ∧ sumN ls ≤ 4096 * (ls.length : Int) := by
  induction ls with
  | nil => simp [sumN]
  | cons l ls ih =>
    have h1 := h l (by simp)
    have h2 := ih fun x hx => h x (by simp [hx])
    unfold LocOk at h1
    rw [sumN, List.length_cons]
    omega
theorem Seen.bound {ls : List Lc} {k : Nat} {s : Int} (h : Seen ls k s) : 0 ≤ s ∧ s ≤ 4096 * (k : Int) := by
  have h1 := sum_bound h.1
  rw [h.2, List.length_take] at h1
  have : ((min k ls.length : Nat) : Int) ≤ k := by omega
  omega
end Go.Proofs.Ytdjlhdeejpndcaa

/-
  Appends onto a row of the call's own whose types are told apart: a named slice, a slice of another name, a string.
-/
namespace Go.Proofs.Ytdjlhdeejpndcaa
open Go.RowKit

/-- A type of slices of bytes. -/
def IsSl (t : TypeId) : Prop := Try.prog.underlying t = some (.slice 5)
theorem append_like {t u : TypeId} (ht : IsSl t) (hu : IsSl u) (ty : TypeId) (A : Option Addr) (n c : Nat) (x : Value) (w : World) : (Builtin.append_ #[t, u] ty #[.slice A n c, x]).run Try.prog w = (Builtin.append_ #[23, 23] ty #[.slice A n c, x]).run Try.prog w := by
  have h1 : IsSl 23 := Try.underlying23
  unfold IsSl at *
  unfold Builtin.append_
  simp [run_underlying ht, run_underlying hu, run_underlying h1]

/-- Blocks of another type than bytes are as they were. -/
def Stay (w w' : World) : Prop := ∀ (g t : Nat) (cs : Array Value), t ≠ 5 → Whole w g t cs → Whole w' g t cs
theorem Stay.refl (w : World) : Stay w w := fun _ _ _ _ h => h
theorem Stay.trans {a b c : World} (h : Stay a b) (k : Stay b c) : Stay a c := fun g t cs ht hw => k g t cs ht (h g t cs ht hw)
theorem Stay.grow {w w' : World} (h : Grows w w') : Stay w w' := fun _ _ _ _ hw => h.whole hw
theorem Stay.grown {w w' : World} {base : Nat} {v : Value} {n : Nat} {xs : List Value} (ho : w.ownsRow base 5 1 v n xs) (hg : w.grownBy w' v.ownBlock) : Stay w w' := fun g t cs ht hw => by
  unfold Whole
  rw [hg.block g hw.lt (fun e => ?_)]
  · exact hw
  · rcases ho.2 with ⟨rfl, _⟩ | ⟨g', cap, cur, rfl, _, hh, _⟩
    · simp [Value.ownBlock] at e
    · obtain rfl : g = g' := by simpa [Value.ownBlock] using e
      unfold Whole at hw
      rw [hw] at hh
      injection hh with hh
      injection hh with _ h2 _
      exact ht h2

theorem run_append_sl {w : World} {ty base : Nat} {A0 : Option Addr} {n c0 : Nat} {xs : List UInt8} (hown : w.ownsRow base 5 1 (.slice A0 n c0) n (xs.map byteV))
    {A : Option Addr} {m c : Nat} {ys : List UInt8} (hr : Sl w A m c ys) (hk2 : n + m ≤ 140737488351232) (hbase : base ≤ w.heap.size) :
    ∃ A' c' w', (Builtin.append_ #[23, 23] ty #[.slice A0 n c0, .slice A m c]).run Try.prog w = .ok (.slice A' (n + m) c') w' ∧ w'.ownsRow base 5 1 (.slice A' (n + m) c') (n + m) ((xs ++ ys).map byteV) ∧ Below base w w' ∧ Stay w w' := by
  obtain ⟨i0, hi, hz0, hz1, hz2⟩ := info_parts infoU8
  obtain ⟨v', w', hrun, h2, h3, _⟩ := run_append_row (P := Try.prog) (ty := ty) Try.underlying23 hi hz0 hz1 hz2 rfl hown hr.bytes hr.bare (byteV_one ys) (by unfold maxLen; omega) (by omega) hbase
  obtain ⟨A', c', rfl, _⟩ := slice_of_owned h2
  rw [← List.map_append] at h2
  exact ⟨A', c', w', hrun, h2, (Below.refl _ w).grown h3 hbase (fun g hg => (hown.lt g hg).1), Stay.grown hown h3⟩
theorem str_cells (ks : List UInt8) : Lib.strCells ⟨ks.toArray⟩ = ks.map byteV := by
  simp only [Lib.strCells]
  rfl
theorem run_append_str {w : World} {ty base : Nat} {A0 : Option Addr} {n c0 : Nat} {xs : List UInt8} (hown : w.ownsRow base 5 1 (.slice A0 n c0) n (xs.map byteV))
    (ks : List UInt8) (hk2 : n + ks.length ≤ 140737488351232) (hbase : base ≤ w.heap.size) :
    ∃ A' c' w', (Builtin.append_ #[23, 9] ty #[.slice A0 n c0, .string ⟨ks.toArray⟩]).run Try.prog w = .ok (.slice A' (n + ks.length) c') w' ∧ w'.ownsRow base 5 1 (.slice A' (n + ks.length) c') (n + ks.length) ((xs ++ ks).map byteV) ∧ Below base w w' ∧ Stay w w' := by
  obtain ⟨i0, hi, hz0, hz1, hz2⟩ := info_parts infoU8
  have hs : (⟨ks.toArray⟩ : ByteArray).size = ks.length := by simp [ByteArray.size]
  obtain ⟨v', w', hrun, h2, h3, _⟩ := Lib.run_append_own_string (P := Try.prog) (w := w) base 23 9 ty 5 i0 Try.underlying23 Try.underlying9 hi hz0 hz1 hz2 _ n _ hown ⟨ks.toArray⟩ (by rw [hs]; unfold maxLen; omega) (by rw [hs]; omega) hbase
  rw [hs, str_cells, ← List.map_append] at h2
  obtain ⟨A', c', rfl, _⟩ := slice_of_owned h2
  exact ⟨A', c', w', hrun, h2, (Below.refl _ w).grown h3 hbase (fun g hg => (hown.lt g hg).1), Stay.grown hown h3⟩

theorem append_like_str {t : TypeId} (ht : IsSl t) (ty : TypeId) (A : Option Addr) (n c : Nat) (x : Value) (w : World) : (Builtin.append_ #[t, 9] ty #[.slice A n c, x]).run Try.prog w = (Builtin.append_ #[23, 9] ty #[.slice A n c, x]).run Try.prog w := by
  have h1 : IsSl 23 := Try.underlying23
  unfold IsSl at *
  unfold Builtin.append_
  simp [run_underlying ht, run_underlying h1]

theorem isSl_bytes : IsSl 23 := Try.underlying23

section
variable {ops : Array Oper} {rest : List Oper} {o : Oper} {a : Act} {w : World} {Q : Exit → Act → World → Prop} {K : Act → World → Prop} {E : Prop}
theorem list_app {t u : TypeId} (ht : IsSl t) (hu : IsSl u) (hgd : o.guard = none) (s x : Operand) (ho : o.op = .call { callee := .builtin .append, args := #[s, x], argTypes := #[t, u] })
    {base : Nat} {A0 : Option Addr} {n c0 : Nat} {xs : List UInt8} (hs : a.eval s = .slice A0 n c0) (hown : w.ownsRow base 5 1 (.slice A0 n c0) n (xs.map byteV))
    {A : Option Addr} {m c : Nat} {ys : List UInt8} (hx : a.eval x = .slice A m c) (hr : Sl w A m c ys) (k : Nat) (hk : n + m = k) (hk2 : k ≤ 140737488351232) (hbase : base ≤ w.heap.size)
    (h : ∀ A' c' w', w'.ownsRow base 5 1 (.slice A' k c') k ((xs ++ ys).map byteV) → Below base w w' → Stay w w' → wpList Try.prog ops Q rest (a.put o.dst (.slice A' k c')) w') : wpList Try.prog ops Q (o :: rest) a w := by
  subst hk
  refine wpList_plain hgd fun K hK => ?_
  obtain ⟨A', c', w', hrun, h2, h3, h4⟩ := run_append_sl (ty := o.type) hown hr hk2 hbase
  rw [← append_like ht hu] at hrun
  unfold Oper.wp execOp
  simp only [ho, resolve, invoke, builtin, Sem.run_bind, Sem.run_pure, Result.andThen_ok, List.map_toArray, List.map_cons, List.map_nil, hs, hx, hrun]
  exact hK _ _ (h A' c' w' h2 h3 h4)
theorem list_app_str {t : TypeId} (ht : IsSl t) (hgd : o.guard = none) (s x : Operand) (ho : o.op = .call { callee := .builtin .append, args := #[s, x], argTypes := #[t, 9] })
    {base : Nat} {A0 : Option Addr} {n c0 : Nat} {xs : List UInt8} (hs : a.eval s = .slice A0 n c0) (hown : w.ownsRow base 5 1 (.slice A0 n c0) n (xs.map byteV))
    {ks : List UInt8} (hx : a.eval x = .string ⟨ks.toArray⟩) (k : Nat) (hk : n + ks.length = k) (hk2 : k ≤ 140737488351232) (hbase : base ≤ w.heap.size)
    (h : ∀ A' c' w', w'.ownsRow base 5 1 (.slice A' k c') k ((xs ++ ks).map byteV) → Below base w w' → Stay w w' → wpList Try.prog ops Q rest (a.put o.dst (.slice A' k c')) w') : wpList Try.prog ops Q (o :: rest) a w := by
  subst hk
  refine wpList_plain hgd fun K hK => ?_
  obtain ⟨A', c', w', hrun, h2, h3, h4⟩ := run_append_str (ty := o.type) hown ks hk2 hbase
  rw [← append_like_str ht] at hrun
  unfold Oper.wp execOp
  simp only [ho, resolve, invoke, builtin, Sem.run_bind, Sem.run_pure, Result.andThen_ok, List.map_toArray, List.map_cons, List.map_nil, hs, hx, hrun]
  exact hK _ _ (h A' c' w' h2 h3 h4)
/-- .. as a step of a region that draws its order. -/
theorem step_app {t u : TypeId} (ht : IsSl t) (hu : IsSl u) (hgd : o.guard = none) (s x : Operand) (ho : o.op = .call { callee := .builtin .append, args := #[s, x], argTypes := #[t, u] })
    {base : Nat} {A0 : Option Addr} {n c0 : Nat} {xs : List UInt8} (hs : a.eval s = .slice A0 n c0) (hown : w.ownsRow base 5 1 (.slice A0 n c0) n (xs.map byteV))
    {A : Option Addr} {m c : Nat} {ys : List UInt8} (hx : a.eval x = .slice A m c) (hr : Sl w A m c ys) (k : Nat) (hk : n + m = k) (hk2 : k ≤ 140737488351232) (hbase : base ≤ w.heap.size)
    (h : ∀ A' c' w', w'.ownsRow base 5 1 (.slice A' k c') k ((xs ++ ys).map byteV) → Below base w w' → Stay w w' → K (a.put o.dst (.slice A' k c')) w') : if Region.wanted o (yielded ops a.tmps) = true then Oper.wp Try.prog o a w K Q else E := by
  subst hk
  have hw : Region.wanted o (yielded ops a.tmps) = true := by simp [Region.wanted, hgd]
  rw [if_pos hw]
  obtain ⟨A', c', w', hrun, h2, h3, h4⟩ := run_append_sl (ty := o.type) hown hr hk2 hbase
  rw [← append_like ht hu] at hrun
  unfold Oper.wp execOp
  simp only [ho, resolve, invoke, builtin, Sem.run_bind, Sem.run_pure, Result.andThen_ok, List.map_toArray, List.map_cons, List.map_nil, hs, hx, hrun]
  exact h A' c' w' h2 h3 h4
theorem step_app_str {t : TypeId} (ht : IsSl t) (hgd : o.guard = none) (s x : Operand) (ho : o.op = .call { callee := .builtin .append, args := #[s, x], argTypes := #[t, 9] })
    {base : Nat} {A0 : Option Addr} {n c0 : Nat} {xs : List UInt8} (hs : a.eval s = .slice A0 n c0) (hown : w.ownsRow base 5 1 (.slice A0 n c0) n (xs.map byteV))
    {ks : List UInt8} (hx : a.eval x = .string ⟨ks.toArray⟩) (k : Nat) (hk : n + ks.length = k) (hk2 : k ≤ 140737488351232) (hbase : base ≤ w.heap.size)
    (h : ∀ A' c' w', w'.ownsRow base 5 1 (.slice A' k c') k ((xs ++ ks).map byteV) → Below base w w' → Stay w w' → K (a.put o.dst (.slice A' k c')) w') : if Region.wanted o (yielded ops a.tmps) = true then Oper.wp Try.prog o a w K Q else E := by
  subst hk
  have hw : Region.wanted o (yielded ops a.tmps) = true := by simp [Region.wanted, hgd]
  rw [if_pos hw]
  obtain ⟨A', c', w', hrun, h2, h3, h4⟩ := run_append_str (ty := o.type) hown ks hk2 hbase
  rw [← append_like_str ht] at hrun
  unfold Oper.wp execOp
  simp only [ho, resolve, invoke, builtin, Sem.run_bind, Sem.run_pure, Result.andThen_ok, List.map_toArray, List.map_cons, List.map_nil, hs, hx, hrun]
  exact h A' c' w' h2 h3 h4
end
end Go.Proofs.Ytdjlhdeejpndcaa

/-
  The walks of rec's number (of made), and of the answer's num.
-/
namespace Go.Proofs.Ytdjlhdeejpndcaa
open Go.RowKit
set_option linter.unusedSimpArgs false

theorem numB_get (x : Int) : ∀ (k j i : Nat), k = j + 1 + i → (numB x k)[j]? = some (byteI (x / 256 ^ i))
  | 0, j, i, h => by omega
  | k + 1, 0, i, h => by
    obtain rfl : k = i := by omega
    rfl
  | k + 1, j + 1, i, h => by
    rw [numB, List.getElem?_cons_succ]
    exact numB_get x k j i (by omega)
theorem numB_next (x : Int) (k j i : Nat) (h : k = j + 1 + i) : (numB x k).take (j + 1) = (numB x k).take j ++ [byteI (x / 256 ^ i)] := by
  have hl : j < (numB x k).length := by rw [numB_length]; omega
  have hg := numB_get x k j i h
  rw [List.getElem?_eq_getElem hl, Option.some.injEq] at hg
  rw [List.take_succ_eq_append_getElem hl, hg]


end Go.Proofs.Ytdjlhdeejpndcaa
