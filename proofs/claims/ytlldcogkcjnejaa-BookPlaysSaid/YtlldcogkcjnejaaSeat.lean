/-
  Two closed facts of this seat's program.
-/
import Derived.Test.YtlldcogkcjnejaaRows
import Derived.KernelRfl
namespace Go.Proofs.Ytlldcogkcjnejaa
theorem own : ownKnob Try.prog.godebug = none := by kernel_rfl
theorem laidOut : laidOutB Try.prog = true := by kernel_rfl
end Go.Proofs.Ytlldcogkcjnejaa
