/-
  What a file that is moved comes to, plainly.
-/
import Derived.Test.YtimkhlonklnddaaDkFld
import Derived.KernelRfl
namespace Go.Proofs.Ytimkhlonklnddaa
open Go.RowKit
set_option linter.unusedVariables false
set_option linter.unusedSimpArgs false
namespace Mv
def V1 : Dk := ((Dk.new 1048576).create [120]).1
def V2 : Dk := (V1.create [121]).1
def V3 (a : List UInt8) : Dk := (V2.doAppend 0 a).bump
def V4 (a b : List UInt8) : Dk := ((V3 a).doAppend 1 b).bump
def V5 (a b : List UInt8) : Dk := ((V4 a b).doRename [120] [121]).bump
def V6 (a b : List UInt8) : Dk := ((V5 a b).doRemove 0 [121]).bump
theorem V2w : Well V2 := ⟨by kernel_rfl, by rw [show V2.cut = -1 by kernel_rfl]; omega, by rw [show V2.fail = -1 by kernel_rfl]; omega⟩
theorem V2u : V2.used = 0 := by kernel_rfl
theorem V2m : V2.most = 1048576 := by kernel_rfl
theorem V2x : Dir.find [120] V2.names = some 0 := by kernel_rfl
theorem V2y : Dir.find [121] V2.names = some 1 := by kernel_rfl
theorem V2f0 : (V2.files 0).bytes = [] := by kernel_rfl
theorem V2f1 : (V2.files 1).bytes = [] := by kernel_rfl
theorem V2my : Dir.find [121] ((Ch.moved [120] [121]).on V2.names) = some 0 := by kernel_rfl
theorem V2mx : Dir.find [120] ((Ch.moved [120] [121]).on V2.names) = none := by kernel_rfl
theorem V2ml : ((Ch.moved [120] [121]).on V2.names).length = 1 := by kernel_rfl
theorem V2ry : right [121] = true := by kernel_rfl
variable (a b : List UInt8) (h : a.length + b.length ≤ 9000)
theorem V3n : (V3 a).names = V2.names := by unfold V3; exact app_names _ _ _
theorem V3m : (V3 a).most = 1048576 := by unfold V3; rw [app_most, V2m]
theorem V3f0 : ((V3 a).files 0).bytes = a := by unfold V3; rw [app_bytes, V2f0, List.nil_append]
theorem V3f1 : ((V3 a).files 1).bytes = [] := by unfold V3; rw [app_other _ _ _ (by decide), V2f1]
theorem V3w : Well (V3 a) := by unfold V3; exact app_well _ _ V2w
theorem V4n : (V4 a b).names = V2.names := by unfold V4; rw [app_names, V3n]
theorem V4f0 : ((V4 a b).files 0).bytes = a := by unfold V4; rw [app_other _ _ _ (by decide), V3f0]
theorem V4f1 : ((V4 a b).files 1).bytes = b := by unfold V4; rw [app_bytes, V3f1, List.nil_append]
theorem V4w : Well (V4 a b) := by unfold V4; exact app_well _ _ (V3w a)
theorem V5n : (V5 a b).names = (Ch.moved [120] [121]).on V2.names := by unfold V5; rw [ren_names, V4n]
theorem V5f0 : ((V5 a b).files 0).bytes = a := by unfold V5; rw [ren_files, V4f0]
theorem V5w : Well (V5 a b) := by unfold V5; exact ren_well _ _ (V4w a b)
theorem e5 : (V4 a b).rename [120] [121] = (V5 a b, 0) := (V4w a b).rename (f := 0) (by rw [V4n, V2x]) V2ry (by decide)
theorem e5r : (V5 a b).read [121] 0 a.length = (some a, 0) := by
  have := (V5w a b).read (n := [121]) (f := 0) (by rw [V5n, V2my]) (x := 0) (k := a.length) (by rw [V5f0]; omega)
  rw [V5f0] at this
  simpa using this
theorem e5s : (V5 a b).size [120] = (0, false) := size_none (by rw [V5n, V2mx])
theorem V5l : (V5 a b).names.length = 1 := by rw [V5n, V2ml]
theorem e6 : (V5 a b).remove [121] = (V6 a b, 0) := (V5w a b).remove (by rw [V5n, V2my])
include h
theorem e3 : V2.append [120] a = (V3 a, 0) := V2w.append V2x (by rw [V2u, V2m, IntWalk.wrap64_in _ (by omega)]; omega)
theorem V3u : (V3 a).used = a.length := by
  unfold V3
  rw [app_used, V2u, IntWalk.wrap64_in _ (by omega)]
  omega
theorem e4 : (V3 a).append [121] b = (V4 a b, 0) := (V3w a).append (by rw [V3n, V2y]) (by rw [V3u a b h, V3m, IntWalk.wrap64_in _ (by omega)]; omega)
theorem V4u : (V4 a b).used = a.length + b.length := by
  unfold V4
  rw [app_used, V3u a b h, IntWalk.wrap64_in _ (by omega)]
theorem V5u : (V5 a b).used = a.length := by
  unfold V5
  rw [ren_used, size_some (f := 1) (by rw [V4n, V2y]), V4u a b h, V4f1, IntWalk.wrap64_in _ (by dsimp only; omega)]
  dsimp only
  omega
theorem V6u : (V6 a b).used = 0 := by
  unfold V6
  rw [rem_used, V5u a b h, V5f0, IntWalk.wrap64_in _ (by omega)]
  omega
omit h
theorem V1ok : DkOk 1 V1 := (DkOk.new 1048576).create [120]
theorem V2ok : DkOk 2 V2 := V1ok.create [121]
include h
theorem V3ok : DkOk (2 + a.length) (V3 a) := fst_of (e3 a b h) ▸ V2ok.append [120] a
theorem V4ok : DkOk (2 + a.length + b.length) (V4 a b) := fst_of (e4 a b h) ▸ (V3ok a b h).append [121] b
theorem V5ok : DkOk (3 + a.length + b.length) (V5 a b) := fst_of (e5 a b) ▸ ((V4ok a b h).rename [120] [121]).mono (by omega)
end Mv
end Go.Proofs.Ytimkhlonklnddaa
