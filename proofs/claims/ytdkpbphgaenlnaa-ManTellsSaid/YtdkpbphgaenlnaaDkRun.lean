/-
  A disk with one file, to which is appended while something is to go wrong.
-/
import Derived.Test.YtdkpbphgaenlnaaMC
namespace Go.Proofs.Ytdkpbphgaenlnaa
open Go.RowKit
set_option linter.unusedVariables false
set_option linter.unusedSimpArgs false

theorem thing_ok {m : Dk} (hd : m.down = false) (hc : m.cut ≠ 0) (hf : m.fail ≠ 0) (does : Dk → Dk) : m.thing does = ((does m.sooner).bump, 0) := by
  unfold Dk.thing
  rw [if_neg (by rw [hd]; decide), if_neg hc, if_neg hf]
  rfl
theorem thing_io {m : Dk} (hd : m.down = false) (hc : m.cut ≠ 0) (hf : m.fail = 0) (does : Dk → Dk) : m.thing does = ({ m.sooner with fail := -1 }, 81) := by
  unfold Dk.thing
  rw [if_neg (by rw [hd]; decide), if_neg hc, if_pos hf]
theorem thing_cut {m : Dk} (hd : m.down = false) (hc : m.cut = 0) (does : Dk → Dk) : m.thing does = ({ m.sooner with cut := -1, down := true }, 82) := by
  unfold Dk.thing
  rw [if_neg (by rw [hd]; decide), if_pos hc]

/-- One file, named a, of n bytes. -/
structure LS (m : Dk) (dw : Bool) (c f : Int) (n z : Nat) (k : Dir) (p : List Ch) (dn : Int) : Prop where
  down : m.down = dw
  cut : m.cut = c
  fail : m.fail = f
  names : m.names = [([97], 0)]
  kept : m.kept = k
  pend : m.pend = p
  most : m.most = 1048576
  used : m.used = n
  len : (m.files 0).bytes.length = n
  kp : (m.files 0).kept = z
  done : m.done = dn
section
variable {m : Dk} {c f : Int} {n z : Nat} {k : Dir} {p : List Ch} {dn : Int} {dw : Bool}
theorem LS.find (h : LS m dw c f n z k p dn) : Dir.find [97] m.names = some 0 := by rw [h.names]; rfl
theorem LS.pre (h : LS m false c f n z k p dn) (b : List UInt8) (hn : n + b.length ≤ 1048576) : m.append [97] b = m.thing (Dk.doAppend 0 b) := by
  unfold Dk.append
  rw [if_neg (by rw [h.down]; decide), h.find]
  dsimp only
  rw [if_neg (by rw [h.used, h.most, IntWalk.wrap64_in _ (by omega)]; omega)]
theorem LS.done' (h : LS m false c f n z k p dn) (hc : c ≠ 0) (hf : f ≠ 0) (b : List UInt8) (hn : n + b.length ≤ 1048576) (hd : 0 ≤ dn ∧ dn ≤ 1000000) :
    ∃ m', m.append [97] b = (m', 0) ∧ LS m' false (sooner c) (sooner f) (n + b.length) z k p (dn + 1) := by
  refine ⟨_, (h.pre b hn).trans (thing_ok h.down (by rw [h.cut]; exact hc) (by rw [h.fail]; exact hf) _), ?_⟩
  constructor
  · exact h.down
  · show sooner m.cut = _; rw [h.cut]
  · show sooner m.fail = _; rw [h.fail]
  · rw [app_names]; exact h.names
  · rw [app_kept]; exact h.kept
  · rw [app_pend]; exact h.pend
  · rw [app_most]; exact h.most
  · rw [app_used]
    show wrap64 (m.used + _) = _
    rw [h.used, IntWalk.wrap64_in _ (by omega)]
    omega
  · rw [app_bytes, List.length_append]
    show (m.files 0).bytes.length + _ = _
    rw [h.len]
  · rw [app_keptB]; exact h.kp
  · rw [app_done]
    show wrap64 (m.done + 1) = _
    rw [h.done, IntWalk.wrap64_in _ (by omega)]
theorem LS.io (h : LS m false c 0 n z k p dn) (hc : c ≠ 0) (b : List UInt8) (hn : n + b.length ≤ 1048576) :
    ∃ m', m.append [97] b = (m', 81) ∧ LS m' false (sooner c) (-1) n z k p dn := by
  refine ⟨_, (h.pre b hn).trans (thing_io h.down (by rw [h.cut]; exact hc) h.fail _), ?_⟩
  exact ⟨h.down, by show sooner m.cut = _; rw [h.cut], rfl, h.names, h.kept, h.pend, h.most, h.used, h.len, h.kp, h.done⟩
theorem LS.cuts (h : LS m false 0 f n z k p dn) (b : List UInt8) (hn : n + b.length ≤ 1048576) :
    ∃ m', m.append [97] b = (m', 82) ∧ LS m' true (-1) (sooner f) n z k p dn := by
  refine ⟨_, (h.pre b hn).trans (thing_cut h.down h.cut _), ?_⟩
  exact ⟨rfl, rfl, by show sooner m.fail = _; rw [h.fail], h.names, h.kept, h.pend, h.most, h.used, h.len, h.kp, h.done⟩
theorem LS.off (h : LS m true c f n z k p dn) (b : List UInt8) : m.append [97] b = (m, 82) := by
  unfold Dk.append
  rw [if_pos h.down]
theorem LS.size (h : LS m dw c f n z k p dn) : m.size [97] = ((n : Int), true) := by rw [size_some h.find, h.len]
theorem LS.sync (h : LS m false c f n z k p dn) (hc : c ≠ 0) (hf : f ≠ 0) (hd : 0 ≤ dn ∧ dn ≤ 1000000) :
    ∃ m', m.sync [97] = (m', 0) ∧ LS m' false (sooner c) (sooner f) n n k p (dn + 1) := by
  refine ⟨_, (show m.sync [97] = m.thing (Dk.doSync 0) from ?_).trans (thing_ok h.down (by rw [h.cut]; exact hc) (by rw [h.fail]; exact hf) _), ?_⟩
  · unfold Dk.sync
    rw [if_neg (by rw [h.down]; decide), h.find]
  constructor
  · exact h.down
  · show sooner m.cut = _; rw [h.cut]
  · show sooner m.fail = _; rw [h.fail]
  · rw [syn_names]; exact h.names
  · rw [syn_kept]; exact h.kept
  · rw [syn_pend]; exact h.pend
  · exact h.most
  · exact h.used
  · rw [syn_bytes]; exact h.len
  · rw [syn_keptB]; exact h.len
  · show wrap64 (m.done + 1) = _
    rw [h.done, IntWalk.wrap64_in _ (by omega)]
theorem LS.boot (h : LS m dw c f n z [([97], 0)] [] dn) (hz : z ≤ n) (hn : n ≤ 1000000) : LS (m.boot 0 []) false (-1) (-1) z z [([97], 0)] [] dn := by
  have hk : (m.keep (min (max (0 : Int) 0) (m.pend.length : Int)).toNat).kept = [([97], 0)] := by
    show redo (m.pend.take _) m.kept = _
    rw [h.pend, h.kept]
    rfl
  have hfl : (m.boot 0 []).files 0 = (m.files 0).lose 0 := by
    show (if (m.keep (min (max (0 : Int) 0) (m.pend.length : Int)).toNat).kept.any (fun p => p.2 == 0) then _ else _ : Fl) = _
    rw [hk]
    rfl
  have hlo : ((m.files 0).lose 0).kept = z := by
    unfold Fl.lose
    dsimp only
    rw [h.kp, h.len]
    omega
  have hlb : ((m.files 0).lose 0).bytes.length = z := by
    have h1 := hlo
    unfold Fl.lose at h1 ⊢
    dsimp only at h1 ⊢
    rw [h1, List.length_take, h.len]
    omega
  constructor
  · rfl
  · rfl
  · rfl
  · show (m.keep _).kept = _; exact hk
  · show (m.keep _).kept = _; exact hk
  · rfl
  · exact h.most
  · show wrap64 (((m.keep (min (max (0 : Int) 0) (m.pend.length : Int)).toNat).kept.map fun p => (((m.boot 0 []).files p.2).bytes.length : Int)).sum) = _
    rw [hk]
    show wrap64 ((((m.boot 0 []).files 0).bytes.length : Int) + 0) = _
    rw [hfl, hlb, IntWalk.wrap64_in _ (by omega)]
    omega
  · rw [hfl]; exact hlb
  · rw [hfl]; exact hlo
  · exact h.done
end
end Go.Proofs.Ytdkpbphgaenlnaa
