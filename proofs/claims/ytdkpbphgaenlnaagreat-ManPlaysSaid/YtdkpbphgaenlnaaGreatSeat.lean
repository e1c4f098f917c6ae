/-
  Two closed facts of this seat's program.
-/
import Derived.Test.YtdkpbphgaenlnaaGreatRows
import Derived.KernelRfl
namespace Go.Proofs.YtdkpbphgaenlnaaGreat
theorem own : ownKnob Tryz.prog.godebug = none := by kernel_rfl
theorem laidOut : laidOutB Tryz.prog = true := by kernel_rfl
end Go.Proofs.YtdkpbphgaenlnaaGreat
