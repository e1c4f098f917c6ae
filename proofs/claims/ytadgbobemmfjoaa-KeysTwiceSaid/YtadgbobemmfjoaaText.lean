/-
  A text that came in.
-/
import Derived.Test.YtadgbobemmfjoaaCame
import Derived.Test.YtadgbobemmfjoaaSeat
import Derived.SliceStrings
import Derived.ChangeMaps5
namespace Go.Proofs.Ytadgbobemmfjoaa
open Go.ChangeMaps Go.ChangeShapes Go.WideShapes Go.ChangeAt Go.RowKit

section
variable {H : Type} {enc : TypeId × Value → H} {P : Program} {W : World} {base : Nat} {r : Reach}
theorem open_text {t : TypeId} {v : Value} {d : DataW H} {p : List MemPlace} (ht : P.underlying t = some .string)
    (hv : Value.okWide P W r base t v) (h : DataW.Trod enc P W 0 (fun _ => true) true t v d p) : ∃ l : List UInt8, v = .string ⟨l.toArray⟩ ∧ l.length ≤ 9223372036854775807 := by
  obtain ⟨s, rfl, _, _, hs⟩ := open_string ht hv h
  have e : s.data.toList.length = s.size := Array.length_toList
  unfold maxLen at hs
  exact ⟨s.data.toList, by simp, by omega⟩
end
end Go.Proofs.Ytadgbobemmfjoaa
