/-
  What came in is a slice of bytes.
-/
import Derived.Test.YtadgbobemmfjoaaFrame
import Derived.Test.YtadgbobemmfjoaaSeat
import Derived.Test.YtadgbobemmfjoaaSlices
namespace Go.Proofs.Ytadgbobemmfjoaa
theorem Came.sl {W : World} {A : Option Addr} {n c : Nat} {bs : List UInt8} (h : Came W A n c bs) : Sl W A n c bs := ⟨h.bytes, h.cap, h.bare⟩
end Go.Proofs.Ytadgbobemmfjoaa
