/-
  The cells of an array of 65536 bools that has just been made: all false.
-/
import Derived.Test.YtihmmndhpjnjnaaProg
import Derived.KernelRfl
namespace Go.Proofs.Ytihmmndhpjnjnaa

def isF : Value → Bool := fun v => match v with | .bool false => true | _ => false
noncomputable def allF (l : List Value) : Bool := List.rec (motive := fun _ => Bool) true (fun a _ ih => Bool.rec (motive := fun _ => Bool) false ih (isF a)) l
theorem isF_is (v : Value) (h : isF v = true) : v = .bool false := by
  unfold isF at h
  split at h
  · rfl
  · cases h
theorem allF_is : ∀ (l : List Value), allF l = true → ∀ v ∈ l, v = .bool false
  | [], _, v, hv => by cases hv
  | a :: l, h, v, hv => by
    have h' : (Bool.rec (motive := fun _ => Bool) false (allF l) (isF a) : Bool) = true := h
    cases ha : isF a with
    | false => rw [ha] at h'; cases h'
    | true =>
      rw [ha] at h'
      rcases List.mem_cons.1 hv with rfl | hv
      · exact isF_is _ ha
      · exact allF_is l h' v hv
set_option maxRecDepth 1000000 in
theorem zero_all : allF Try.zeroCells46.toList = true := by kernel_rfl
theorem zero_size : Try.zeroCells46.size = 65536 := by kernel_rfl
theorem zero_get (i : Nat) (h : i < 65536) : Try.zeroCells46[i]? = some (.bool false) := by
  have hs := zero_size
  have hl := allF_is _ zero_all
  generalize Try.zeroCells46 = z at *
  have hi : i < z.size := by omega
  rw [Array.getElem?_eq_getElem hi]
  exact congrArg some (hl _ (by simp))
end Go.Proofs.Ytihmmndhpjnjnaa
