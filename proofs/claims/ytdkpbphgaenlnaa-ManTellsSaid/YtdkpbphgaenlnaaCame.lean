/-
  What came in is a slice of bytes.
-/
import Derived.Test.YtdkpbphgaenlnaaFrame
import Derived.Test.YtdkpbphgaenlnaaSeat
import Derived.Test.YtdkpbphgaenlnaaSlices
namespace Go.Proofs.Ytdkpbphgaenlnaa
theorem Came.sl {W : World} {A : Option Addr} {n c : Nat} {bs : List UInt8} (h : Came W A n c bs) : Sl W A n c bs := ⟨h.bytes, h.cap, h.bare⟩
end Go.Proofs.Ytdkpbphgaenlnaa
