/-
  Two closed facts of this seat's program.
-/
import Derived.Test.YtnnkioekjobbmaaRows
import Derived.KernelRfl
namespace Go.Proofs.Ytnnkioekjobbmaa
theorem own : ownKnob Try.prog.godebug = none := by kernel_rfl
theorem laidOut : laidOutB Try.prog = true := by kernel_rfl
end Go.Proofs.Ytnnkioekjobbmaa
