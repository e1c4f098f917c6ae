/-
  What calls leave of each field of a disk.
-/
import Derived.Test.YtmfhpfehphbklaaDkWell
namespace Go.Proofs.Ytmfhpfehphbklaa
open Go.RowKit
set_option linter.unusedVariables false
set_option linter.unusedSimpArgs false

theorem fst_of {r : Dk × Int} {a : Dk} {b : Int} (h : r = (a, b)) : r.1 = a := by rw [h]
theorem snd_of {r : Dk × Int} {a : Dk} {b : Int} (h : r = (a, b)) : r.2 = b := by rw [h]
section
variable (m : Dk) (f : Nat) (b : List UInt8) (n to : Nm)
theorem app_names : (m.doAppend f b).bump.names = m.names := rfl
theorem app_kept : (m.doAppend f b).bump.kept = m.kept := rfl
theorem app_pend : (m.doAppend f b).bump.pend = m.pend := rfl
theorem app_made : (m.doAppend f b).bump.made = m.made := rfl
theorem app_most : (m.doAppend f b).bump.most = m.most := rfl
theorem app_done : (m.doAppend f b).bump.done = wrap64 (m.done + 1) := rfl
theorem app_used : (m.doAppend f b).bump.used = wrap64 (m.used + b.length) := rfl
theorem app_bytes : ((m.doAppend f b).bump.files f).bytes = (m.files f).bytes ++ b := by
  show (if f = f then _ else _ : Fl).bytes = _
  rw [if_pos rfl]
theorem app_keptB : ((m.doAppend f b).bump.files f).kept = (m.files f).kept := by
  show (if f = f then _ else _ : Fl).kept = _
  rw [if_pos rfl]
theorem app_other {i : Nat} (h : i ≠ f) : (m.doAppend f b).bump.files i = m.files i := if_neg h
theorem app_well {m : Dk} (h : Well m) : Well (m.doAppend f b).bump := ⟨h.down, h.cut, h.fail⟩
theorem ren_names : (m.doRename n to).bump.names = (Ch.moved n to).on m.names := rfl
theorem ren_used : (m.doRename n to).bump.used = wrap64 (m.used - (m.size to).1) := rfl
theorem ren_files : (m.doRename n to).bump.files = m.files := rfl
theorem ren_well {m : Dk} (h : Well m) : Well (m.doRename n to).bump := ⟨h.down, h.cut, h.fail⟩
theorem rem_names : (m.doRemove f n).bump.names = Dir.del n m.names := rfl
theorem rem_used : (m.doRemove f n).bump.used = wrap64 (m.used - (m.files f).bytes.length) := rfl
theorem syn_names : (m.doSync f).bump.names = m.names := rfl
theorem syn_kept : (m.doSync f).bump.kept = m.kept := rfl
theorem syn_pend : (m.doSync f).bump.pend = m.pend := rfl
theorem syn_made : (m.doSync f).bump.made = m.made := rfl
theorem syn_bytes : ((m.doSync f).bump.files f).bytes = (m.files f).bytes := by
  show (if f = f then _ else _ : Fl).bytes = _
  rw [if_pos rfl]
theorem syn_keptB : ((m.doSync f).bump.files f).kept = (m.files f).bytes.length := by
  show (if f = f then _ else _ : Fl).kept = _
  rw [if_pos rfl]
theorem syn_other {i : Nat} (h : i ≠ f) : (m.doSync f).bump.files i = m.files i := if_neg h
theorem syn_well {m : Dk} (h : Well m) : Well (m.doSync f).bump := ⟨h.down, h.cut, h.fail⟩
end
end Go.Proofs.Ytmfhpfehphbklaa
