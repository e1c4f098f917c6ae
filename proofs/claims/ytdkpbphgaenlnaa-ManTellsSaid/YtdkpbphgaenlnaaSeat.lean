/-
  Two closed facts of this seat's program.
-/
import Derived.Test.YtdkpbphgaenlnaaRows
import Derived.KernelRfl
namespace Go.Proofs.Ytdkpbphgaenlnaa
theorem own : ownKnob Try.prog.godebug = none := by kernel_rfl
theorem laidOut : laidOutB Try.prog = true := by kernel_rfl
end Go.Proofs.Ytdkpbphgaenlnaa
