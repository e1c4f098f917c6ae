/-
  What came in is a slice of bytes.
-/
import Derived.Test.YtnnkioekjobbmaaFrame
import Derived.Test.YtnnkioekjobbmaaSeat
import Derived.Test.YtnnkioekjobbmaaSlices
namespace Go.Proofs.Ytnnkioekjobbmaa
theorem Came.sl {W : World} {A : Option Addr} {n c : Nat} {bs : List UInt8} (h : Came W A n c bs) : Sl W A n c bs := ⟨h.bytes, h.cap, h.bare⟩
end Go.Proofs.Ytnnkioekjobbmaa
