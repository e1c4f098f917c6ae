/-
  What came in is a slice of bytes.
-/
import Derived.Test.YtlldcogkcjnejaaFrame
import Derived.Test.YtlldcogkcjnejaaSeat
import Derived.Test.YtlldcogkcjnejaaSlices
namespace Go.Proofs.Ytlldcogkcjnejaa
theorem Came.sl {W : World} {A : Option Addr} {n c : Nat} {bs : List UInt8} (h : Came W A n c bs) : Sl W A n c bs := ⟨h.bytes, h.cap, h.bare⟩
end Go.Proofs.Ytlldcogkcjnejaa
