/-
  What a file that is synced comes to, plainly.
-/
import Derived.Test.YtmfhpfehphbklaaDkDir
import Derived.Test.YtmfhpfehphbklaaDkGreat
import Derived.KernelRfl
namespace Go.Proofs.Ytmfhpfehphbklaa
open Go.RowKit
set_option linter.unusedVariables false
set_option linter.unusedSimpArgs false
section
variable (m : Dk) (k : Nat)
theorem kp_names : (m.keep k).bump.names = m.names := rfl
theorem kp_kept : (m.keep k).bump.kept = redo (m.pend.take k) m.kept := rfl
theorem kp_pend : (m.keep k).bump.pend = [] := rfl
theorem kp_made : (m.keep k).bump.made = m.made := rfl
theorem kp_files : (m.keep k).bump.files = m.files := rfl
theorem kp_used : (m.keep k).bump.used = m.used := rfl
theorem kp_most : (m.keep k).bump.most = m.most := rfl
theorem kp_well {m : Dk} (h : Well m) : Well (m.keep k).bump := ⟨h.down, h.cut, h.fail⟩
theorem syn_used (f : Nat) : (m.doSync f).bump.used = m.used := rfl
theorem syn_most (f : Nat) : (m.doSync f).bump.most = m.most := rfl
end
namespace Kp
def V1 : Dk := ((Dk.new 1048576).create [120]).1
def V2 (a : List UInt8) : Dk := (V1.doAppend 0 a).bump
def V3 (a : List UInt8) : Dk := ((V2 a).doSync 0).bump
def V4 (a : List UInt8) : Dk := ((V3 a).keep (V3 a).pend.length).bump
def V5 (a b : List UInt8) : Dk := ((V4 a).doAppend 0 b).bump
theorem V1w : Well V1 := ⟨by kernel_rfl, by rw [show V1.cut = -1 by kernel_rfl]; omega, by rw [show V1.fail = -1 by kernel_rfl]; omega⟩
theorem V1u : V1.used = 0 := by kernel_rfl
theorem V1m : V1.most = 1048576 := by kernel_rfl
theorem V1n : V1.names = [([120], 0)] := by kernel_rfl
theorem V1p : V1.pend = [.made [120] 0] := by kernel_rfl
theorem V1k : V1.kept = [] := by kernel_rfl
theorem V1d : V1.made = 1 := by kernel_rfl
theorem V1f : V1.files 0 = ⟨[], 0⟩ := by kernel_rfl
theorem V1x : Dir.find [120] V1.names = some 0 := by rw [V1n]; rfl
variable (a b : List UInt8) (h : a.length + b.length ≤ 9000)
theorem V2w : Well (V2 a) := by unfold V2; exact app_well _ _ V1w
theorem V2n : (V2 a).names = V1.names := by unfold V2; exact app_names _ _ _
theorem V2p : (V2 a).pend = V1.pend := by unfold V2; exact app_pend _ _ _
theorem V2k : (V2 a).kept = V1.kept := by unfold V2; exact app_kept _ _ _
theorem V2d : (V2 a).made = V1.made := by unfold V2; exact app_made _ _ _
theorem V2m : (V2 a).most = 1048576 := by unfold V2; rw [app_most, V1m]
theorem V2f : ((V2 a).files 0).bytes = a := by unfold V2; rw [app_bytes, V1f]; exact List.nil_append _
theorem e3 : (V2 a).sync [120] = (V3 a, 0) := (V2w a).sync (by rw [V2n, V1x])
theorem V3w : Well (V3 a) := by unfold V3; exact syn_well _ (V2w a)
theorem V3n : (V3 a).names = V1.names := by unfold V3; rw [syn_names, V2n]
theorem V3p : (V3 a).pend = V1.pend := by unfold V3; rw [syn_pend, V2p]
theorem V3k : (V3 a).kept = V1.kept := by unfold V3; rw [syn_kept, V2k]
theorem V3d : (V3 a).made = V1.made := by unfold V3; rw [syn_made, V2d]
theorem V3m : (V3 a).most = 1048576 := by unfold V3; rw [syn_most, V2m]
theorem V3f : (V3 a).files 0 = ⟨a, a.length⟩ := by
  have h1 : ((V3 a).files 0).bytes = a := by unfold V3; rw [syn_bytes, V2f]
  have h2 : ((V3 a).files 0).kept = a.length := by unfold V3; rw [syn_keptB, V2f]
  cases hf : (V3 a).files 0 with
  | mk x y => rw [hf] at h1 h2; simp only at h1 h2; rw [h1, h2]
theorem e4 : (V3 a).syncDir = (V4 a, 0) := (V3w a).syncDir
theorem V4w : Well (V4 a) := by unfold V4; exact kp_well _ (V3w a)
theorem V4n : (V4 a).names = V1.names := by unfold V4; rw [kp_names, V3n]
theorem V4p : (V4 a).pend = [] := by unfold V4; exact kp_pend _ _
theorem V4k : (V4 a).kept = [([120], 0)] := by unfold V4; rw [kp_kept, V3p, V3k, V1p, V1k]; rfl
theorem V4d : (V4 a).made = V1.made := by unfold V4; rw [kp_made, V3d]
theorem V4m : (V4 a).most = 1048576 := by unfold V4; rw [kp_most, V3m]
theorem V4f : (V4 a).files 0 = ⟨a, a.length⟩ := by unfold V4; rw [kp_files, V3f]
theorem V5i : KI (V5 a b) a b := by
  have f1 : ((V5 a b).files 0).bytes = a ++ b := by unfold V5; rw [app_bytes, V4f]
  have f2 : ((V5 a b).files 0).kept = a.length := by unfold V5; rw [app_keptB, V4f]
  refine ⟨?_, ?_, ?_, ?_, ?_⟩
  · cases hf : (V5 a b).files 0 with
    | mk x y => rw [hf] at f1 f2; simp only at f1 f2; rw [f1, f2]
  · unfold V5; rw [app_kept, V4k]; rfl
  · unfold V5; rw [app_pend, V4p]; exact fun c hc => by cases hc
  · unfold V5; rw [app_made, V4d, V1d]; exact Nat.le_refl _
  · unfold V5
    rw [app_names, V4n, V1n]
    intro n f hn hf
    have := find_mem hf
    rw [List.mem_singleton] at this
    injection this with h1 h2
    exact absurd h1 hn
include h
theorem e2 : V1.append [120] a = (V2 a, 0) := V1w.append V1x (by rw [V1u, V1m, IntWalk.wrap64_in _ (by omega)]; omega)
theorem V2u : (V2 a).used = a.length := by
  unfold V2
  rw [app_used, V1u, IntWalk.wrap64_in _ (by omega)]
  omega
theorem V4u : (V4 a).used = a.length := by unfold V4; rw [kp_used]; unfold V3; rw [syn_used, V2u a b h]
theorem e5 : (V4 a).append [120] b = (V5 a b, 0) := (V4w a).append (by rw [V4n, V1x]) (by rw [V4u a b h, V4m, IntWalk.wrap64_in _ (by omega)]; omega)
omit h
theorem V1ok : DkOk 1 V1 := (DkOk.new 1048576).create [120]
include h
theorem V2ok : DkOk (1 + a.length) (V2 a) := fst_of (e2 a b h) ▸ V1ok.append [120] a
theorem V3ok : DkOk (1 + a.length) (V3 a) := fst_of (e3 a) ▸ (V2ok a b h).sync [120]
theorem V4ok : DkOk (1 + a.length) (V4 a) := fst_of (e4 a) ▸ (V3ok a b h).syncDir
theorem V5ok : DkOk 9001 (V5 a b) := fst_of (e5 a b h) ▸ ((V4ok a b h).append [120] b).mono (by omega)
end Kp
end Go.Proofs.Ytmfhpfehphbklaa
