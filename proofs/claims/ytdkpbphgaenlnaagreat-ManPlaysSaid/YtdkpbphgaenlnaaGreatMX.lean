/-
  Texts that the statements' proofs lean on, one behind the other.
-/
import Derived.Test.YtdkpbphgaenlnaaGreatMC
/-
  Names in order: what stands where behind a change.
-/
namespace Go.Proofs.YtdkpbphgaenlnaaGreat
open Go.RowKit
set_option linter.unusedVariables false
set_option linter.unusedSimpArgs false

theorem find_ins_other {n : Nm} {x : Nm × Nat} (h : x.1 ≠ n) : ∀ l : Dir, Dir.find n (Dir.ins x l) = Dir.find n l
  | [] => by
    unfold Dir.ins Dir.find
    simp [h]
  | y :: r => by
    have ih := find_ins_other h r
    unfold Dir.ins
    split
    · unfold Dir.find
      simp [h]
    · unfold Dir.find at ih ⊢
      rw [List.find?_cons, List.find?_cons]
      split
      · rfl
      · exact ih
theorem find_ins_same {n : Nm} {f : Nat} : ∀ {l : Dir}, (∀ y ∈ l, y.1 ≠ n) → Dir.find n (Dir.ins (n, f) l) = some f
  | [], _ => by
    unfold Dir.ins Dir.find
    simp
  | y :: r, h => by
    have ih := find_ins_same (n := n) (f := f) (l := r) fun z hz => h z (List.mem_cons_of_mem _ hz)
    have hy : (y.1 == n) = false := by rw [beq_eq_false_iff_ne]; exact h y List.mem_cons_self
    unfold Dir.ins
    split
    · unfold Dir.find
      simp
    · unfold Dir.find at ih ⊢
      rw [List.find?_cons, hy]
      exact ih
theorem mem_del {n : Nm} {l : Dir} {y : Nm × Nat} : y ∈ Dir.del n l ↔ y ∈ l ∧ y.1 ≠ n := by
  unfold Dir.del
  rw [List.mem_filter]
  simp
theorem find_del_other {n x : Nm} (h : n ≠ x) : ∀ l : Dir, Dir.find n (Dir.del x l) = Dir.find n l
  | [] => rfl
  | y :: r => by
    have ih := find_del_other h r
    unfold Dir.del Dir.find at ih ⊢
    by_cases hy : y.1 = x
    · have h1 : (y.1 == x) = true := by rw [beq_iff_eq]; exact hy
      have h2 : (y.1 == n) = false := by rw [beq_eq_false_iff_ne, hy]; exact fun e => h e.symm
      rw [List.filter_cons, h1, List.find?_cons, h2]
      exact ih
    · have h1 : (y.1 == x) = false := by rw [beq_eq_false_iff_ne]; exact hy
      rw [List.filter_cons, h1]
      simp only [Bool.not_false, if_true]
      rw [List.find?_cons, List.find?_cons]
      split
      · rfl
      · exact ih
theorem find_del_same (n : Nm) (l : Dir) : Dir.find n (Dir.del n l) = none := by
  unfold Dir.find
  rw [Option.map_eq_none_iff, List.find?_eq_none]
  intro y hy
  have := (mem_del.1 hy).2
  simpa using this
theorem find_put_other {n x : Nm} {f : Nat} (h : n ≠ x) (l : Dir) : Dir.find n (Dir.put x f l) = Dir.find n l := by
  unfold Dir.put
  rw [find_ins_other (fun e => h e.symm), find_del_other h]
theorem find_put_same (n : Nm) (f : Nat) (l : Dir) : Dir.find n (Dir.put n f l) = some f :=
  find_ins_same fun y hy => (mem_del.1 hy).2
theorem find_mem {n : Nm} {f : Nat} {l : Dir} (h : Dir.find n l = some f) : (n, f) ∈ l := by
  unfold Dir.find at h
  obtain ⟨p, hp, e⟩ := Option.map_eq_some_iff.1 h
  have h1 := List.find?_some hp
  have h2 := List.mem_of_find?_eq_some hp
  have h1 : p.1 = n := by simpa using h1
  subst h1; subst e
  exact h2

/-! What was synced, and one more file beside it. -/
/-- The file x, its first bytes kept; what is pending is that others were made. -/
structure KI (m : Dk) (A B : List UInt8) : Prop where
  file : m.files 0 = ⟨A ++ B, A.length⟩
  kept : Dir.find [120] m.kept = some 0
  pend : ∀ c ∈ m.pend, ∃ n f, c = .made n f ∧ n ≠ [120]
  made : 1 ≤ m.made
  other : ∀ n f, n ≠ [120] → Dir.find n m.names = some f → f ≠ 0
section
variable {m : Dk} {A B : List UInt8}
theorem KI.nums (h : KI m A B) {m' : Dk} (h1 : m'.made = m.made) (h2 : m'.names = m.names) (h3 : m'.kept = m.kept) (h4 : m'.pend = m.pend) (h5 : m'.files = m.files) : KI m' A B :=
  ⟨by rw [h5]; exact h.file, by rw [h3]; exact h.kept, by rw [h4]; exact h.pend, by rw [h1]; exact h.made, by rw [h2]; exact h.other⟩
theorem KI.soon (h : KI m A B) : KI m.sooner A B := h.nums rfl rfl rfl rfl rfl
theorem KI.thing (h : KI m A B) {does : Dk → Dk} (hd : KI m.sooner A B → KI (does m.sooner) A B) : KI (m.thing does).1 A B := by
  unfold Dk.thing
  split
  · exact h
  · split
    · exact h.nums rfl rfl rfl rfl rfl
    · split
      · exact h.nums rfl rfl rfl rfl rfl
      · exact (hd h.soon).nums rfl rfl rfl rfl rfl
theorem KI.create (h : KI m A B) {n : Nm} (hn : n ≠ [120]) : KI (m.create n).1 A B := by
  unfold Dk.create
  split
  · exact h
  · split
    · exact h
    · split
      · exact h
      · split
        · exact h
        · refine h.thing fun hs => ⟨?_, ?_, ?_, ?_, ?_⟩
          · show (if 0 = m.sooner.made then _ else _ : Fl) = _
            rw [if_neg (by have := hs.made; omega)]
            exact hs.file
          · exact hs.kept
          · intro c hc
            rcases List.mem_append.1 hc with hc | hc
            · exact hs.pend c hc
            · rw [List.mem_singleton] at hc
              exact ⟨n, m.sooner.made, hc, hn⟩
          · show 1 ≤ m.sooner.made + 1
            omega
          · intro x f hx hf
            have hf : Dir.find x (Dir.put n m.sooner.made m.sooner.names) = some f := hf
            by_cases e : x = n
            · subst e
              rw [find_put_same] at hf
              injection hf with hf
              have := hs.made
              omega
            · rw [find_put_other e] at hf
              exact hs.other x f hx hf
theorem KI.append (h : KI m A B) {n : Nm} (hn : n ≠ [120]) (b : List UInt8) : KI (m.append n b).1 A B := by
  unfold Dk.append
  split
  · exact h
  · split
    · exact h
    · rename_i f hf
      split
      · exact h
      · refine h.thing fun hs => ⟨?_, hs.kept, hs.pend, hs.made, hs.other⟩
        show (if 0 = f then _ else _ : Fl) = _
        rw [if_neg (fun e => h.other n f hn hf e.symm)]
        exact hs.file
theorem redo_find : ∀ (cs : List Ch) (l : Dir), (∀ c ∈ cs, ∃ n f, c = .made n f ∧ n ≠ [120]) → Dir.find [120] (redo cs l) = Dir.find [120] l
  | [], _, _ => rfl
  | c :: cs, l, h => by
    obtain ⟨n, f, rfl, hn⟩ := h c List.mem_cons_self
    show Dir.find [120] (redo cs (Dir.put n f l)) = _
    rw [redo_find cs _ fun c hc => h c (List.mem_cons_of_mem _ hc), find_put_other (fun e => hn e.symm)]
theorem KI.keep (h : KI m A B) (k : Nat) : KI (m.keep k) A B :=
  ⟨h.file, by
    show Dir.find [120] (redo (m.pend.take k) m.kept) = _
    rw [redo_find _ _ fun c hc => h.pend c (List.mem_of_mem_take hc)]
    exact h.kept, fun c hc => (by cases hc), h.made, h.other⟩
theorem KI.syncDir (h : KI m A B) : KI m.syncDir.1 A B := h.thing fun hs => hs.keep _
theorem KI.cuts (h : KI m A B) (x : Int) : KI (m.setCut x) A B := h.nums rfl rfl rfl rfl rfl
/-- Behind a Boot. -/
theorem KI.boot (h : KI m A B) (dirs : Int) (l : List Int) : ∃ n, A.length ≤ n ∧ n ≤ A.length + B.length ∧ (m.boot dirs l).size [120] = ((n : Int), true) ∧ (m.boot dirs l).read [120] 0 n = (some ((A ++ B).take n), 0) := by
  obtain ⟨k, hk⟩ : ∃ k, (min (max dirs 0) (m.pend.length : Int)).toNat = k := ⟨_, rfl⟩
  have hkp := h.keep k
  have hnm : Dir.find [120] (m.boot dirs l).names = some 0 := by
    show Dir.find [120] (m.keep (min (max dirs 0) (m.pend.length : Int)).toNat).kept = _
    rw [hk]
    exact hkp.kept
  have hany : (m.keep k).kept.any (fun p => p.2 == 0) = true := List.any_eq_true.2 ⟨_, find_mem hkp.kept, rfl⟩
  have hfl : (m.boot dirs l).files 0 = (⟨A ++ B, A.length⟩ : Fl).lose (more l 0) := by
    show (if (m.keep (min (max dirs 0) (m.pend.length : Int)).toNat).kept.any (fun p => p.2 == 0) then (m.files 0).lose (more l 0) else m.files 0) = _
    rw [hk, hany, if_pos rfl, h.file]
  obtain ⟨z, hz⟩ : ∃ z, A.length + (min (max (more l 0) 0) (((A ++ B).length : Int) - A.length)).toNat = z := ⟨_, rfl⟩
  have hlo : (⟨A ++ B, A.length⟩ : Fl).lose (more l 0) = ⟨(A ++ B).take z, z⟩ := by
    unfold Fl.lose
    dsimp only
    rw [hz]
  rw [List.length_append] at hz
  have hz1 : A.length ≤ z := by omega
  have hz2 : z ≤ A.length + B.length := by omega
  have hlen : ((A ++ B).take z).length = z := by rw [List.length_take, List.length_append]; omega
  refine ⟨z, hz1, hz2, ?_, ?_⟩
  · rw [size_some hnm, hfl, hlo, hlen]
  · unfold Dk.read
    rw [if_neg (by show ¬ false = true; decide), hnm]
    dsimp only
    rw [hfl, hlo]
    dsimp only
    rw [hlen, if_neg (by omega)]
    congr 2
    rw [show (0 : Int).toNat = 0 from rfl, List.drop_zero, Int.toNat_natCast, List.take_take, Nat.min_self]
end
end Go.Proofs.YtdkpbphgaenlnaaGreat

/-
  A disk with one file, to which is appended while something is to go wrong.
-/
namespace Go.Proofs.YtdkpbphgaenlnaaGreat
open Go.RowKit
set_option linter.unusedVariables false
set_option linter.unusedSimpArgs false

theorem thing_ok {m : Dk} (hd : m.down = false) (hc : m.cut ≠ 0) (hf : m.fail ≠ 0) (does : Dk → Dk) : m.thing does = ((does m.sooner).bump, 0) := by
  unfold Dk.thing
  rw [if_neg (by rw [hd]; decide), if_neg hc, if_neg hf]
  rfl
theorem thing_io {m : Dk} (hd : m.down = false) (hc : m.cut ≠ 0) (hf : m.fail = 0) (does : Dk → Dk) : m.thing does = ({ m.sooner with fail := -1 }, 81) := by
  unfold Dk.thing
  rw [if_neg (by rw [hd]; decide), if_neg hc, if_pos hf]
theorem thing_cut {m : Dk} (hd : m.down = false) (hc : m.cut = 0) (does : Dk → Dk) : m.thing does = ({ m.sooner with cut := -1, down := true }, 82) := by
  unfold Dk.thing
  rw [if_neg (by rw [hd]; decide), if_pos hc]

/-- One file, named a, of n bytes. -/
structure LS (m : Dk) (dw : Bool) (c f : Int) (n z : Nat) (k : Dir) (p : List Ch) (dn : Int) : Prop where
  down : m.down = dw
  cut : m.cut = c
  fail : m.fail = f
  names : m.names = [([97], 0)]
  kept : m.kept = k
  pend : m.pend = p
  most : m.most = 1048576
  used : m.used = n
  len : (m.files 0).bytes.length = n
  kp : (m.files 0).kept = z
  done : m.done = dn
section
variable {m : Dk} {c f : Int} {n z : Nat} {k : Dir} {p : List Ch} {dn : Int} {dw : Bool}
theorem LS.find (h : LS m dw c f n z k p dn) : Dir.find [97] m.names = some 0 := by rw [h.names]; rfl
theorem LS.pre (h : LS m false c f n z k p dn) (b : List UInt8) (hn : n + b.length ≤ 1048576) : m.append [97] b = m.thing (Dk.doAppend 0 b) := by
  unfold Dk.append
  rw [if_neg (by rw [h.down]; decide), h.find]
  dsimp only
  rw [if_neg (by rw [h.used, h.most, IntWalk.wrap64_in _ (by omega)]; omega)]
theorem LS.done' (h : LS m false c f n z k p dn) (hc : c ≠ 0) (hf : f ≠ 0) (b : List UInt8) (hn : n + b.length ≤ 1048576) (hd : 0 ≤ dn ∧ dn ≤ 1000000) :
    ∃ m', m.append [97] b = (m', 0) ∧ LS m' false (sooner c) (sooner f) (n + b.length) z k p (dn + 1) := by
  refine ⟨_, (h.pre b hn).trans (thing_ok h.down (by rw [h.cut]; exact hc) (by rw [h.fail]; exact hf) _), ?_⟩
  constructor
  · exact h.down
  · show sooner m.cut = _; rw [h.cut]
  · show sooner m.fail = _; rw [h.fail]
  · rw [app_names]; exact h.names
  · rw [app_kept]; exact h.kept
  · rw [app_pend]; exact h.pend
  · rw [app_most]; exact h.most
  · rw [app_used]
    show wrap64 (m.used + _) = _
    rw [h.used, IntWalk.wrap64_in _ (by omega)]
    omega
  · rw [app_bytes, List.length_append]
    show (m.files 0).bytes.length + _ = _
    rw [h.len]
  · rw [app_keptB]; exact h.kp
  · rw [app_done]
    show wrap64 (m.done + 1) = _
    rw [h.done, IntWalk.wrap64_in _ (by omega)]
theorem LS.io (h : LS m false c 0 n z k p dn) (hc : c ≠ 0) (b : List UInt8) (hn : n + b.length ≤ 1048576) :
    ∃ m', m.append [97] b = (m', 81) ∧ LS m' false (sooner c) (-1) n z k p dn := by
  refine ⟨_, (h.pre b hn).trans (thing_io h.down (by rw [h.cut]; exact hc) h.fail _), ?_⟩
  exact ⟨h.down, by show sooner m.cut = _; rw [h.cut], rfl, h.names, h.kept, h.pend, h.most, h.used, h.len, h.kp, h.done⟩
theorem LS.cuts (h : LS m false 0 f n z k p dn) (b : List UInt8) (hn : n + b.length ≤ 1048576) :
    ∃ m', m.append [97] b = (m', 82) ∧ LS m' true (-1) (sooner f) n z k p dn := by
  refine ⟨_, (h.pre b hn).trans (thing_cut h.down h.cut _), ?_⟩
  exact ⟨rfl, rfl, by show sooner m.fail = _; rw [h.fail], h.names, h.kept, h.pend, h.most, h.used, h.len, h.kp, h.done⟩
theorem LS.off (h : LS m true c f n z k p dn) (b : List UInt8) : m.append [97] b = (m, 82) := by
  unfold Dk.append
  rw [if_pos h.down]
theorem LS.size (h : LS m dw c f n z k p dn) : m.size [97] = ((n : Int), true) := by rw [size_some h.find, h.len]
theorem LS.sync (h : LS m false c f n z k p dn) (hc : c ≠ 0) (hf : f ≠ 0) (hd : 0 ≤ dn ∧ dn ≤ 1000000) :
    ∃ m', m.sync [97] = (m', 0) ∧ LS m' false (sooner c) (sooner f) n n k p (dn + 1) := by
  refine ⟨_, (show m.sync [97] = m.thing (Dk.doSync 0) from ?_).trans (thing_ok h.down (by rw [h.cut]; exact hc) (by rw [h.fail]; exact hf) _), ?_⟩
  · unfold Dk.sync
    rw [if_neg (by rw [h.down]; decide), h.find]
  constructor
  · exact h.down
  · show sooner m.cut = _; rw [h.cut]
  · show sooner m.fail = _; rw [h.fail]
  · rw [syn_names]; exact h.names
  · rw [syn_kept]; exact h.kept
  · rw [syn_pend]; exact h.pend
  · exact h.most
  · exact h.used
  · rw [syn_bytes]; exact h.len
  · rw [syn_keptB]; exact h.len
  · show wrap64 (m.done + 1) = _
    rw [h.done, IntWalk.wrap64_in _ (by omega)]
theorem LS.boot (h : LS m dw c f n z [([97], 0)] [] dn) (hz : z ≤ n) (hn : n ≤ 1000000) : LS (m.boot 0 []) false (-1) (-1) z z [([97], 0)] [] dn := by
  have hk : (m.keep (min (max (0 : Int) 0) (m.pend.length : Int)).toNat).kept = [([97], 0)] := by
    show redo (m.pend.take _) m.kept = _
    rw [h.pend, h.kept]
    rfl
  have hfl : (m.boot 0 []).files 0 = (m.files 0).lose 0 := by
    show (if (m.keep (min (max (0 : Int) 0) (m.pend.length : Int)).toNat).kept.any (fun p => p.2 == 0) then _ else _ : Fl) = _
    rw [hk]
    rfl
  have hlo : ((m.files 0).lose 0).kept = z := by
    unfold Fl.lose
    dsimp only
    rw [h.kp, h.len]
    omega
  have hlb : ((m.files 0).lose 0).bytes.length = z := by
    have h1 := hlo
    unfold Fl.lose at h1 ⊢
    dsimp only at h1 ⊢
    rw [h1, List.length_take, h.len]
    omega
  constructor
  · rfl
  · rfl
  · rfl
  · show (m.keep _).kept = _; exact hk
  · show (m.keep _).kept = _; exact hk
  · rfl
  · exact h.most
  · show wrap64 (((m.keep (min (max (0 : Int) 0) (m.pend.length : Int)).toNat).kept.map fun p => (((m.boot 0 []).files p.2).bytes.length : Int)).sum) = _
    rw [hk]
    show wrap64 ((((m.boot 0 []).files 0).bytes.length : Int) + 0) = _
    rw [hfl, hlb, IntWalk.wrap64_in _ (by omega)]
    omega
  · rw [hfl]; exact hlb
  · rw [hfl]; exact hlo
  · exact h.done
end
end Go.Proofs.YtdkpbphgaenlnaaGreat

/-
  Bits of a file that turn.
-/
namespace Go.Proofs.YtdkpbphgaenlnaaGreat
open Go.RowKit Go.Maps Go.WideMaps
set_option linter.unusedVariables false
set_option linter.unusedSimpArgs false

/-- What turns of the i-th byte. -/
def turnAt (t i0 i : Nat) : Nat := if i < i0 then 0 else t / 256 ^ (i - i0) % 256
def flipK (t i0 e : Nat) (bs : List UInt8) : List UInt8 := bs.mapIdx fun i b => if i < e then UInt8.ofNat (b.toNat ^^^ turnAt t i0 i) else b
/-- All of it. -/
def flipT (t i0 : Nat) (bs : List UInt8) : List UInt8 := bs.mapIdx fun i b => UInt8.ofNat (b.toNat ^^^ turnAt t i0 i)
theorem flipK_length (t i0 e : Nat) (bs : List UInt8) : (flipK t i0 e bs).length = bs.length := by simp [flipK]
theorem flipT_length (t i0 : Nat) (bs : List UInt8) : (flipT t i0 bs).length = bs.length := by simp [flipT]
theorem ofNat_toNat (b : UInt8) : UInt8.ofNat b.toNat = b := by simp
theorem flipK_start (t i0 : Nat) (bs : List UInt8) : flipK t i0 i0 bs = bs := by
  refine List.ext_getElem (flipK_length _ _ _ _) fun i h1 h2 => ?_
  simp only [flipK, List.getElem_mapIdx]
  split
  · rename_i h
    rw [turnAt, if_pos h, Nat.xor_zero, ofNat_toNat]
  · rfl
theorem flipK_end {t i0 e : Nat} {bs : List UInt8} (h : bs.length ≤ e ∨ (i0 ≤ e ∧ t / 256 ^ (e - i0) = 0)) : flipK t i0 e bs = flipT t i0 bs := by
  refine List.ext_getElem (by rw [flipK_length, flipT_length]) fun i h1 h2 => ?_
  rw [flipK_length] at h1
  simp only [flipK, flipT, List.getElem_mapIdx]
  split
  · rfl
  · rename_i hi
    rcases h with h | ⟨h0, h⟩
    · omega
    · rw [turnAt, if_neg (by omega), show i - i0 = (e - i0) + (i - e) by omega, Nat.pow_add, ← Nat.div_div_eq_div_mul, h, Nat.zero_div, Nat.zero_mod, Nat.xor_zero, ofNat_toNat]
theorem flipK_get {t i0 e : Nat} {bs : List UInt8} (h : e < bs.length) : (flipK t i0 e bs).getD e 0 = bs.getD e 0 := by
  rw [List.getD_eq_getElem?_getD, List.getD_eq_getElem?_getD, List.getElem?_eq_getElem (by rw [flipK_length]; exact h), List.getElem?_eq_getElem h]
  simp only [flipK, List.getElem_mapIdx, if_neg (Nat.lt_irrefl e)]
theorem flipK_step {t i0 e : Nat} {bs : List UInt8} (h : e < bs.length) (he : i0 ≤ e) : (flipK t i0 e bs).set e (UInt8.ofNat ((bs.getD e 0).toNat ^^^ (t / 256 ^ (e - i0) % 256))) = flipK t i0 (e + 1) bs := by
  refine List.ext_getElem (by simp [flipK_length]) fun i h1 h2 => ?_
  rw [flipK_length] at h2
  rw [List.getElem_set]
  split
  · rename_i hi
    subst hi
    simp only [flipK, List.getElem_mapIdx, if_pos (Nat.lt_succ_self e), turnAt, if_neg (show ¬ e < i0 by omega)]
    rw [List.getD_eq_getElem?_getD, List.getElem?_eq_getElem h]
    rfl
  · simp only [flipK, List.getElem_mapIdx]
    by_cases hie : i < e
    · rw [if_pos hie, if_pos (by omega)]
    · rw [if_neg hie, if_neg (by omega)]
theorem flip_set {t i0 e z : Nat} {bs : List UInt8} {b b' : UInt8} (h : e < bs.length) (he : i0 ≤ e) (hz : z = t / 256 ^ (e - i0) % 256) (hb : bs.getD e 0 = b) (hb' : UInt8.ofNat (b.toNat ^^^ z) = b') :
    ((flipK t i0 e bs).map byteV).set e (.int .u8 (b'.toNat : Nat)) = (flipK t i0 (e + 1) bs).map byteV := by
  subst hb hb' hz
  rw [← flipK_step h he, List.map_set]
  rfl

theorem xor_byte (b : UInt8) (z : Nat) (hz : z < 256) : bits BinOp.xor IntKind.u8 (b.toNat : Int) (z : Int) = ((UInt8.ofNat (b.toNat ^^^ z)).toNat : Int) := by
  have hb := b.toNat_lt
  rw [u8_xor _ _ hb hz]
  have hx : b.toNat ^^^ z < 2 ^ 8 := Nat.xor_lt_two_pow (by omega) (by omega)
  rw [UInt8.toNat_ofNat', Nat.mod_eq_of_lt hx]

section
variable {w : World} {b md n c kp : Nat} {g : Nat} {bs : List UInt8}
set_option maxHeartbeats 8000000 in
set_option maxRecDepth 100000 in
theorem flip_file (w : World) (h : Whole w b 92 #[.int .i64 (md : Int), .slice (some ⟨g, 0, none⟩) n c, .int .i64 (kp : Int)]) (hr : w.ownsRow 0 5 1 (.slice (some ⟨g, 0, none⟩) n c) n (bs.map byteV)) (hgb : b ≠ g) (hn : n ≤ 1000000000)
    (x : Nat) (hx : x < 8 * n) (z : Nat) (hz : z < 4294967296) :
    Calls Tryz.prog 63 #[.pointer (some ⟨b, 0, none⟩), .int .i64 (x : Int), .int .u32 (z : Int)] w fun e w' => e = .returned (.tuple #[]) ∧ w'.ownsRow 0 5 1 (.slice (some ⟨g, 0, none⟩) n c) n ((flipT (z * 2 ^ (x % 8)) (x / 8) bs).map byteV) ∧ Spares (fun k => k = g) w w' := by
  have hlb : bs.length = n := by have := hr.1; simpa using this
  have HLB := Lib.hid hlb
  have H := Lib.hid h
  have HR := Lib.hid hr
  have hq0 : x / 8 < n := by omega
  have hr0 : x % 8 < 8 := by omega
  have hq2 : ((x : Nat) : Int).tdiv 8 = ((x / 8 : Nat) : Int) := by rw [Int.tdiv_eq_ediv_of_nonneg (by omega)]; omega
  have hr2 : ((x : Nat) : Int).tmod 8 = ((x % 8 : Nat) : Int) := by rw [Int.tmod_eq_emod_of_nonneg (by omega)]; omega
  generalize hqe : x / 8 = q at *
  generalize hre : x % 8 = r at *
  have hzr : z * 2 ^ r < 1099511627776 := by
    have h1 : 2 ^ r ≤ 2 ^ 7 := Nat.pow_le_pow_right (by omega) (by omega)
    have h2 : z * 2 ^ r ≤ z * 2 ^ 7 := Nat.mul_le_mul_left z h1
    omega
  have hw1 : IntKind.u64.wrap (z : Int) = z := IntWalk.u64_in _ (by omega)
  have br0 : (0 : Int) ≤ (r : Int) := by omega
  have br1 : (r : Int) < 8 := by omega
  have hwr : IntKind.i64.wrap (r : Int) = r := IntWalk.i64_in _ (by omega)
  have hwq : IntKind.i64.wrap (q : Int) = q := IntWalk.i64_in _ (by omega)
  have hw2 : IntKind.u64.wrap ((z : Int) * 2 ^ r) = ((z * 2 ^ r : Nat) : Int) := by
    have e : ((z : Int) * 2 ^ r) = ((z * 2 ^ r : Nat) : Int) := by push_cast; rfl
    rw [e]
    exact IntWalk.u64_in _ (by omega)
  clear h hr hqe hre hlb
  go_enter Tryz.func63, Tryz.ntmps63
  go_wp2_with (fail)
  obtain ⟨t, hte⟩ : ∃ t, z * 2 ^ r = t := ⟨_, rfl⟩
  rw [hte] at hzr hw2
  have hts : (z : Int) * 2 ^ r = (t : Int) := by rw [← hte]; push_cast; rfl
  have HT := Lib.hid (And.intro hte hts)
  clear hte hw2 hts
  go_loopw [6, 7] (fun vt vi wr => ∃ (e T : Nat), q ≤ e ∧ e ≤ n ∧ T < 1099511627776 ∧ vt = .int .u64 (T : Nat) ∧ vi = .int .i64 (e : Nat) ∧ Hid (T = t / 256 ^ (e - q)) ∧ Hid (wr.ownsRow 0 5 1 (.slice (some ⟨g, 0, none⟩) n c) n ((flipK t q e bs).map byteV)) ∧ Hid (Spares (fun k => k = g) w wr)) (fun _ i _ => n - (intOf i).toNat)
  case atStart => exact ⟨q, t, Nat.le_refl _, by omega, hzr, by rw [HT.out.2], rfl, Lib.hid (by rw [Nat.sub_self, Nat.pow_zero, Nat.div_one]), Lib.hid (by rw [flipK_start]; exact HR.out), Lib.hid (Spares.refl _ _)⟩
  case round =>
    obtain ⟨e, T, hqe, hen, hT, rfl, rfl, HTT, HRR, HS⟩ := hrel
    have hwh : Whole wr b 92 #[.int .i64 (md : Int), .slice (some ⟨g, 0, none⟩) n c, .int .i64 (kp : Int)] := H.out.same (HS.out.same b H.out.lt hgb)
    have c1 : wr.cell? ⟨b, 1, none⟩ = some (.slice (some ⟨g, 0, none⟩) n c) := hwh.cell 1
    clear hwh
    by_cases hlt : e < n
    · by_cases hT0 : 0 < T
      · have heI : (e : Int) < (n : Int) := by omega
        have he0 : (0 : Int) ≤ (e : Int) := by omega
        have hTI : (0 : Int) < (T : Int) := by omega
        have hcell : wr.cell? ⟨g, e, none⟩ = some (.int .u8 ((bs.getD e 0).toNat : Nat)) := by
          rw [HRR.out.cellAt _ (by omega), List.getElem?_map, ← flipK_get (t := t) (i0 := q) (by rw [HLB.out]; exact hlt), List.getD_eq_getElem?_getD, List.getElem?_eq_getElem (by rw [flipK_length, HLB.out]; exact hlt)]
          rfl
        have hfree : wr.frozen? ⟨g, e, none⟩ = false := HRR.out.frozenAt _
        obtain ⟨y, hy⟩ : ∃ y, T % 256 = y := ⟨_, rfl⟩
        have hwy : IntKind.u8.wrap (T : Int) = (y : Int) := by rw [IntKind.wrap_u8']; omega
        have hy2 : y < 256 := by omega
        obtain ⟨b1, hb1⟩ : ∃ b1, bs.getD e 0 = b1 := ⟨_, rfl⟩
        rw [hb1] at hcell
        have hxb := xor_byte b1 y hy2
        obtain ⟨b2, hb2⟩ : ∃ b2, UInt8.ofNat (b1.toNat ^^^ y) = b2 := ⟨_, rfl⟩
        rw [hb2] at hxb
        have HBB := Lib.hid (And.intro hb1 (And.intro hb2 hy))
        have hwe : IntKind.i64.wrap ((e : Int) + 1) = (e : Int) + 1 := IntWalk.i64_in _ (by omega)
        clear hb1 hb2 hy
        go_wp2_with (fail)
        refine ⟨⟨e + 1, T / 256, by omega, hlt, by omega, by push_cast; rfl, rfl, Lib.hid ?_, Lib.hid ?_, Lib.hid (HS.out.setCell (p := ⟨g, e, none⟩) rfl _)⟩, ?_⟩
        · rw [HTT.out, show e + 1 - q = (e - q) + 1 by omega, Nat.pow_succ, Nat.div_div_eq_div_mul]
        · have hs := (HRR.out.stored e (.int .u8 (b2.toNat : Nat))).1
          rw [flip_set (by rw [HLB.out]; exact hlt) hqe (by rw [← HBB.out.2.2, HTT.out]) HBB.out.1 HBB.out.2.1] at hs
          exact hs
        · simp only [intOf]
          omega
      · obtain rfl : T = 0 := by omega
        go_wp2_with (fail)
        go_end0
        exact ⟨rfl, by rw [HT.out.1, ← flipK_end (e := e) (.inr ⟨hqe, HTT.out.symm⟩)]; exact HRR.out, HS.out⟩
    · have heI : ¬ (e : Int) < (n : Int) := by omega
      go_wp2_with (fail)
      go_end0
      exact ⟨rfl, by rw [HT.out.1, ← flipK_end (e := e) (.inl (by rw [HLB.out]; omega))]; exact HRR.out, HS.out⟩
end

/-- Bits of a file turn. -/
def Dk.flip (m : Dk) (n : Nm) (x : Int) (z : Nat) : Dk × Bool := match Dir.find n m.names with
  | none => (m, false)
  | some f => if x < 0 ∨ 8 * ((m.files f).bytes.length : Int) ≤ x then (m, false)
    else (m.setFile f ⟨flipT (z * 2 ^ (x.toNat % 8)) (x.toNat / 8) (m.files f).bytes, (m.files f).kept⟩, true)
section
variable {w : World} {d : Nat} {own : Nat → Prop} {G : Geo} {m : Dk}
theorem DkAt.turned {w' : World} (h : DkAt w d own G m) {f : Nat} (hf : f < m.made) {g : Nat} {c : Nat} (hA : G.row f = .slice (some ⟨g, 0, none⟩) (m.files f).bytes.length c) {bs : List UInt8} (hl : bs.length = (m.files f).bytes.length)
    (hr : w'.ownsRow 0 5 1 (.slice (some ⟨g, 0, none⟩) (m.files f).bytes.length c) (m.files f).bytes.length (bs.map byteV)) (hs : Spares (fun k => k = g) w w') : DkAt w' d own G (m.setFile f ⟨bs, (m.files f).kept⟩) := by
  have hgo : own g := h.rest.or f g hf (by rw [hA]; rfl)
  have hdg : d ≠ g := fun e => h.free (e ▸ hgo)
  have hlg : G.loc f ≠ g := fun e => by
    have h1 := h.rest.cells f hf
    obtain ⟨cur, h2⟩ := row_block (h.rest.rows f hf) (k := g) (by rw [hA]; rfl)
    unfold Whole at h1
    rw [e, h2] at h1
    injection h1 with h1
    injection h1 with _ h1 _
    cases h1
  have hrest := h.rest.filed (w' := w') (own' := own) hf (v := G.row f) (f := ⟨bs, (m.files f).kept⟩) ((h.rest.cells f hf).same (hs.same _ (h.rest.cells f hf).lt hlg)) (by rw [hA, hl]; exact hr) (fun k hk => hk) (fun k hk => Nat.lt_of_lt_of_le (h.rest.lt k hk) hs.size) (fun k hk => h.rest.or f k hf hk) (fun k hk => .inl hk)
    (fun k hk _ hne => hs.same k (h.rest.lt k hk) fun e => hne (by rw [e, hA]; rfl))
  have hgeo : ({ G with row := fun j => if j = f then G.row f else G.row j } : Geo) = G := by
    cases G with
    | mk a b c d e r =>
      congr 1
      funext j
      dsimp only
      split
      · rename_i hj; rw [hj]
      · rfl
  rw [hgeo] at hrest
  exact ⟨hrest, h.top.same (hs.same d h.top.lt hdg), h.free⟩
set_option maxHeartbeats 4000000 in
set_option maxRecDepth 100000 in
theorem flip_any (w : World) (n : Nm) (x : Int) (z : Nat) (h : DkAt w d own G m) (hF : DkFit m) (hn : n.length ≤ maxLen) (hx : -9223372036854775808 ≤ x ∧ x ≤ 9223372036854775807) (hz : z < 4294967296) :
    Calls Tryz.prog 17 #[.pointer (some ⟨d, 0, none⟩), .string ⟨n.toArray⟩, .int .i64 x, .int .u32 (z : Int)] w fun e w' => e = .returned (.bool (m.flip n x z).2) ∧ DkTo w d own w' (m.flip n x z).1 := by
  have c3 : w.cell? ⟨d, 3, none⟩ = some (.map (some G.nb)) := h.cell 3
  have hl := h.look hn
  cases hf : Dir.find n m.names with
  | none =>
    rw [hf, fileV_none hf] at hl
    unfold strB at hl
    simp only [Option.isSome] at hl
    have hs : m.flip n x z = (m, false) := by unfold Dk.flip; rw [hf]
    rw [hs]
    have H := Lib.hid h
    clear h hn hf hs hF
    go_enter Tryz.func17, Tryz.ntmps17
    go_wp2
    go_ret
    exact ⟨rfl, DkTo.same H.out (Spares.refl _ _)⟩
  | some f =>
    rw [hf, fileV_some hf] at hl
    unfold strB ptrV at hl
    simp only [Option.isSome] at hl
    have hlt := h.find_lt hn hf
    obtain ⟨A, c, hA, hbare⟩ := slice_of_owned (h.rest.rows f hlt)
    have hwh := h.rest.cells f hlt
    rw [hA] at hwh
    have c1 : w.cell? ⟨G.loc f, 1, none⟩ = some (.slice A (m.files f).bytes.length c) := hwh.cell 1
    have hfit := (hF.bytes f hlt).1
    obtain ⟨k, hk⟩ : ∃ k, (m.files f).bytes.length = k := ⟨_, rfl⟩
    have hw8 : IntKind.i64.wrap (8 * (k : Int)) = 8 * (k : Int) := IntWalk.i64_in _ (by omega)
    by_cases hx0 : x < 0
    · have hs : m.flip n x z = (m, false) := by unfold Dk.flip; rw [hf]; dsimp only; rw [if_pos (.inl hx0)]
      rw [hs]
      have H := Lib.hid h
      clear h hn hf hs hF hwh hA hbare hfit
      go_enter Tryz.func17, Tryz.ntmps17
      go_wp2
      go_ret
      exact ⟨rfl, DkTo.same H.out (Spares.refl _ _)⟩
    by_cases hx1 : 8 * (k : Int) ≤ x
    · have hs : m.flip n x z = (m, false) := by unfold Dk.flip; rw [hf]; dsimp only; rw [if_pos (.inr (by rw [hk]; exact hx1))]
      rw [hs]
      rw [hk] at c1
      have H := Lib.hid h
      clear h hn hf hs hF hwh hA hbare hfit
      generalize G.loc f = lf at *
      go_enter Tryz.func17, Tryz.ntmps17
      go_wp2
      go_ret
      exact ⟨rfl, DkTo.same H.out (Spares.refl _ _)⟩
    obtain ⟨y, rfl⟩ := Int.eq_ofNat_of_zero_le (show 0 ≤ x by omega)
    have hs : m.flip n y z = (m.setFile f ⟨flipT (z * 2 ^ (y % 8)) (y / 8) (m.files f).bytes, (m.files f).kept⟩, true) := by
      unfold Dk.flip; rw [hf]; dsimp only; rw [if_neg (by rw [hk]; omega)]; rfl
    rw [hs]
    rcases A with _ | ad
    · exfalso
      have hr := (h.rest.rows f hlt)
      rw [hA] at hr
      rcases hr.2 with ⟨_, h0⟩ | ⟨g, cap, cur, he, _⟩
      · omega
      · injection he with he; cases he
    obtain ⟨g, rfl⟩ : ∃ g, ad = ⟨g, 0, none⟩ := by
      have hr := (h.rest.rows f hlt)
      rw [hA] at hr
      rcases hr.2 with ⟨he, _⟩ | ⟨g, cap, cur, he, _⟩
      · injection he with he; cases he
      · injection he with he; injection he with he; exact ⟨g, he⟩
    have hlg : G.loc f ≠ g := fun e => by
      have h1 := h.rest.cells f hlt
      obtain ⟨cur, h2⟩ := row_block (h.rest.rows f hlt) (k := g) (by rw [hA]; rfl)
      unfold Whole at h1
      rw [e, h2] at h1
      injection h1 with h1
      injection h1 with _ h1 _
      cases h1
    have hrow := h.rest.rows f hlt
    rw [hA] at hrow
    have HC := Lib.hid (flip_file w hwh hrow hlg hfit y (by omega) z hz)
    have HT := Lib.hid (fun w' hr hs => h.turned (w' := w') hlt hA (flipT_length (z * 2 ^ (y % 8)) (y / 8) (m.files f).bytes) hr hs)
    have HOG := Lib.hid (h.rest.or f g hlt (by rw [hA]; rfl))
    rw [hk] at c1
    have hy1 : ¬ (8 * (k : Int) ≤ (y : Int)) := hx1
    have hy2 : ¬ ((y : Int) < 0) := hx0
    clear h hn hf hs hF hwh hA hbare hfit hrow hlg
    generalize G.loc f = lf at *
    go_enter Tryz.func17, Tryz.ntmps17
    go_wp2_with (fail)
    refine HC.out.mono ?_
    rintro e w' ⟨rfl, hr, hs⟩
    have HW := Lib.hid (And.intro (HT.out w' hr hs) hs)
    clear hr hs
    go_wp2_with (fail)
    go_ret
    exact ⟨rfl, _, _, HW.out.1, HW.out.2.wider fun k _ e => .inr (e ▸ HOG.out), fun k hk => .inl hk⟩
end
section
variable {B d K : Nat} {w0 w w' : World} {out : Nat → Prop} {m : Dk}
theorem flip_in (n : Nm) (x : Int) (z : Nat) (h : DkIn B w0 w d out m) (ok : DkOk K m) (hK : K ≤ 1000000000) (hn : n.length ≤ 1000000) (hx : -9223372036854775808 ≤ x ∧ x ≤ 9223372036854775807) (hz : z < 4294967296) {v : Bool} {m' : Dk} (h1 : m.flip n x z = (m', v)) :
    Calls Tryz.prog 17 #[.pointer (some ⟨d, 0, none⟩), .string ⟨n.toArray⟩, .int .i64 x, .int .u32 (z : Int)] w fun e w' => e = .returned (.bool v) ∧ DkIn B w0 w' d out m' ∧ Stays B out w w' :=
  h.to fun own G ha _ _ => by
    have := flip_any w n x z ha (ok.fit hK) (by unfold maxLen; omega) hx hz
    rw [h1] at this
    exact this
theorem DkOk.flip (h : DkOk K m) (n : Nm) (x : Int) (z : Nat) : DkOk K (m.flip n x z).1 := by
  unfold Dk.flip
  split
  · exact h
  · rename_i f hf
    split
    · exact h
    · refine ⟨h.cut, h.fail, h.made, h.pend, h.names, fun i hi => ?_⟩
      have h1 := h.bytes i hi
      show (if i = f then _ else _ : Fl).bytes.length ≤ K ∧ (if i = f then _ else _ : Fl).kept ≤ (if i = f then _ else _ : Fl).bytes.length
      split
      · rename_i e
        subst e
        rw [flipT_length]
        exact h1
      · exact h1
end
end Go.Proofs.YtdkpbphgaenlnaaGreat
