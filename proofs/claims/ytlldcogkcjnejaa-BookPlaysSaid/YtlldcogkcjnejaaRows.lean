/-
  No cell of these rows narrows 'for every input' (looked for: loops, veiled, ifaces, maps, wideKeys, modest, calm, conditions, laid).
  DERIVED. THE GIVEN ROWS OF THIS SEAT. 6 by the template 'for every input the law returns true; each argument reads behind the call as it read before'; 0 by the template 'total and deterministic' (their statements: YtlldcogkcjnejaaTotals.lean).
  GIVEN WITH THE SEED: the statements are not yours to turn. If you find one false, say at which input.
  Laid BY PROGRAM, IN A SANDBOX (cutbox-rows.mjs): the forced cells as the released guide's own fill.sh prints them over the translation 3aac65b481ae2353… (all of the seat's roots in one cut). By AI agents, Wed Nov 11 2026. No macro, syntax, notation, axiom, sorry.
-/
import Derived.Test.YtlldcogkcjnejaaChecked
import GoSem.Claim
import GoSem.ClaimJoined
import GoSem.ClaimMapViews
import Derived.JoinedTies
import Derived.KernelRfl
namespace Go.Proofs.Ytlldcogkcjnejaa
/- THE CELL 'sum', in the pinned program and in every row, IS THE sha256 OF THE DUMP (.gsa) THAT YtlldcogkcjnejaaProg.lean LOADS. Nothing in Lean hashes anything: it is a label: what it is worth is what the hold of that sum in a sandbox is worth. -/
noncomputable def Try.pinned : Pinned := { name := "ytlldcogkcjnejaa", sum := "3aac65b481ae2353007c14289e4e11eb8c2d2be8b38fb4a14294b9a8aa2a70bc", checked := Try.checked }
namespace Rows
def none {H : Type} : Left H := { results := [], args := [] }

/-- 'souterrainlaw12.BookPlays': WHATEVER THE INPUT: true; the input reads as it did. -/
def bookPlaysSpec : ChangeSpec := { name := "bookPlays", fn := fun _ => fun
  | [d] => { results := [.lit (.bool true)], args := [d] }
  | _ => none }
def bookPlaysRow : OpenClaim := { program := "ytlldcogkcjnejaa", sum := "3aac65b481ae2353007c14289e4e11eb8c2d2be8b38fb4a14294b9a8aa2a70bc", func := "souterrain/souterrainlaw12.BookPlays", spec := "bookPlays", unfollowed := true, recurses := true, apart := false }
def BookPlaysSaid : Prop := bookPlaysRow.holds Try.pinned (OpenSpec.ofChange bookPlaysSpec)

/-- ITS FALSE NEIGHBOUR: 'it returns false'. Refute it at one input. -/
def bookPlaysWrong : ChangeSpec := { name := "bookPlays", fn := fun _ => fun
  | [d] => { results := [.lit (.bool false)], args := [d] }
  | _ => none }
def BookPlaysWrongFalsely : Prop := bookPlaysRow.holds Try.pinned (OpenSpec.ofChange bookPlaysWrong)

/-- 'souterrainlaw12.BookWithin': WHATEVER THE INPUT: true; the input reads as it did. -/
def bookWithinSpec : ChangeSpec := { name := "bookWithin", fn := fun _ => fun
  | [d] => { results := [.lit (.bool true)], args := [d] }
  | _ => none }
def bookWithinRow : OpenClaim := { program := "ytlldcogkcjnejaa", sum := "3aac65b481ae2353007c14289e4e11eb8c2d2be8b38fb4a14294b9a8aa2a70bc", func := "souterrain/souterrainlaw12.BookWithin", spec := "bookWithin", unfollowed := true, recurses := true, apart := false }
def BookWithinSaid : Prop := bookWithinRow.holds Try.pinned (OpenSpec.ofChange bookWithinSpec)

/-- ITS FALSE NEIGHBOUR: 'it returns false'. Refute it at one input. -/
def bookWithinWrong : ChangeSpec := { name := "bookWithin", fn := fun _ => fun
  | [d] => { results := [.lit (.bool false)], args := [d] }
  | _ => none }
def BookWithinWrongFalsely : Prop := bookWithinRow.holds Try.pinned (OpenSpec.ofChange bookWithinWrong)

/-- 'souterrainlaw12.BookWorst': WHATEVER THE INPUT: true; the input reads as it did. -/
def bookWorstSpec : ChangeSpec := { name := "bookWorst", fn := fun _ => fun
  | [d] => { results := [.lit (.bool true)], args := [d] }
  | _ => none }
def bookWorstRow : OpenClaim := { program := "ytlldcogkcjnejaa", sum := "3aac65b481ae2353007c14289e4e11eb8c2d2be8b38fb4a14294b9a8aa2a70bc", func := "souterrain/souterrainlaw12.BookWorst", spec := "bookWorst", unfollowed := true, recurses := true, apart := false }
def BookWorstSaid : Prop := bookWorstRow.holds Try.pinned (OpenSpec.ofChange bookWorstSpec)

/-- ITS FALSE NEIGHBOUR: 'it returns false'. Refute it at one input. -/
def bookWorstWrong : ChangeSpec := { name := "bookWorst", fn := fun _ => fun
  | [d] => { results := [.lit (.bool false)], args := [d] }
  | _ => none }
def BookWorstWrongFalsely : Prop := bookWorstRow.holds Try.pinned (OpenSpec.ofChange bookWorstWrong)

/-- 'souterrainlaw12.BookApart': WHATEVER THE INPUT: true; the input reads as it did. -/
def bookApartSpec : ChangeSpec := { name := "bookApart", fn := fun _ => fun
  | [d1, d2] => { results := [.lit (.bool true)], args := [d1, d2] }
  | _ => none }
def bookApartRow : OpenClaim := { program := "ytlldcogkcjnejaa", sum := "3aac65b481ae2353007c14289e4e11eb8c2d2be8b38fb4a14294b9a8aa2a70bc", func := "souterrain/souterrainlaw12.BookApart", spec := "bookApart", unfollowed := true, recurses := true, apart := false }
def BookApartSaid : Prop := bookApartRow.holds Try.pinned (OpenSpec.ofChange bookApartSpec)

/-- ITS FALSE NEIGHBOUR: 'it returns false'. Refute it at one input. -/
def bookApartWrong : ChangeSpec := { name := "bookApart", fn := fun _ => fun
  | [d1, d2] => { results := [.lit (.bool false)], args := [d1, d2] }
  | _ => none }
def BookApartWrongFalsely : Prop := bookApartRow.holds Try.pinned (OpenSpec.ofChange bookApartWrong)

/-- 'souterrainlaw12.BookBack': WHATEVER THE INPUT: true; the input reads as it did. -/
def bookBackSpec : ChangeSpec := { name := "bookBack", fn := fun _ => fun
  | [d1, d2] => { results := [.lit (.bool true)], args := [d1, d2] }
  | _ => none }
def bookBackRow : OpenClaim := { program := "ytlldcogkcjnejaa", sum := "3aac65b481ae2353007c14289e4e11eb8c2d2be8b38fb4a14294b9a8aa2a70bc", func := "souterrain/souterrainlaw12.BookBack", spec := "bookBack", unfollowed := true, recurses := true, apart := false }
def BookBackSaid : Prop := bookBackRow.holds Try.pinned (OpenSpec.ofChange bookBackSpec)

/-- ITS FALSE NEIGHBOUR: 'it returns false'. Refute it at one input. -/
def bookBackWrong : ChangeSpec := { name := "bookBack", fn := fun _ => fun
  | [d1, d2] => { results := [.lit (.bool false)], args := [d1, d2] }
  | _ => none }
def BookBackWrongFalsely : Prop := bookBackRow.holds Try.pinned (OpenSpec.ofChange bookBackWrong)

/-- 'souterrainlaw12.BookBounds': WHATEVER THE INPUT: true; the input reads as it did. -/
def bookBoundsSpec : ChangeSpec := { name := "bookBounds", fn := fun _ => fun
  | [d] => { results := [.lit (.bool true)], args := [d] }
  | _ => none }
def bookBoundsRow : OpenClaim := { program := "ytlldcogkcjnejaa", sum := "3aac65b481ae2353007c14289e4e11eb8c2d2be8b38fb4a14294b9a8aa2a70bc", func := "souterrain/souterrainlaw12.BookBounds", spec := "bookBounds", unfollowed := true, recurses := true, apart := false }
def BookBoundsSaid : Prop := bookBoundsRow.holds Try.pinned (OpenSpec.ofChange bookBoundsSpec)

/-- ITS FALSE NEIGHBOUR: 'it returns false'. Refute it at one input. -/
def bookBoundsWrong : ChangeSpec := { name := "bookBounds", fn := fun _ => fun
  | [d] => { results := [.lit (.bool false)], args := [d] }
  | _ => none }
def BookBoundsWrongFalsely : Prop := bookBoundsRow.holds Try.pinned (OpenSpec.ofChange bookBoundsWrong)

/- THE SECOND FORM. 'bulk': how many values and letters a reading holds, each counted each time it is reached (what is shared counts as often as it is met; a slice's spare places count too). A statement '..UptoSaid' is the law's where the arguments, and the package variables that the reading takes, are together of bulk at most 1048576: NARROWER than '..Said'. Prove '..Said' where nothing that the law and all that it calls make is longer than what came in: it says more and counts as full. Else prove '..UptoSaid'. A law counts once. -/
mutual
def uptoBulk {H : Type} : DataW H → Nat
  | .lit (.string bytes) => bytes.length + 1
  | .lit _ => 1
  | .nil => 1
  | .ptr d => uptoBulk d + 1
  | .slice elems spare => uptoBulkAll elems + uptoBulkAll spare + 1
  | .agg parts => uptoBulkAll parts + 1
  | .iface _ d => uptoBulk d + 1
  | .map entries => uptoBulkEntries entries + 1
  | .held _ => 1
def uptoBulkAll {H : Type} : List (DataW H) → Nat
  | [] => 0
  | d :: r => uptoBulk d + uptoBulkAll r
def uptoBulkEntries {H : Type} : List (Lit × DataW H) → Nat
  | [] => 0
  | x :: r => uptoBulkEntry x + uptoBulkEntries r
def uptoBulkEntry {H : Type} : Lit × DataW H → Nat
  | (.string bytes, d) => bytes.length + uptoBulk d + 1
  | (_, d) => uptoBulk d + 1
 end
def uptoSmall : (H : Type) → List (DataW H) → Bool := fun _ ds => decide (uptoBulkAll ds ≤ 1048576)
def OpenSpec.upto (s : _root_.Go.ChangeSpec) : _root_.Go.OpenSpec := { _root_.Go.OpenSpec.ofChange s with cond := some uptoSmall }

/-- 'souterrainlaw12.BookPlays', WHERE WHAT IT READS IS OF BULK AT MOST 1048576: true; the input reads as it did. -/
def bookPlaysUptoRow : OpenClaim := { program := "ytlldcogkcjnejaa", sum := "3aac65b481ae2353007c14289e4e11eb8c2d2be8b38fb4a14294b9a8aa2a70bc", func := "souterrain/souterrainlaw12.BookPlays", spec := "bookPlays", unfollowed := true, recurses := true, apart := false, narrowed := true }
def BookPlaysUptoSaid : Prop := bookPlaysUptoRow.holds Try.pinned (OpenSpec.upto bookPlaysSpec)

/-- 'souterrainlaw12.BookWithin', WHERE WHAT IT READS IS OF BULK AT MOST 1048576: true; the input reads as it did. -/
def bookWithinUptoRow : OpenClaim := { program := "ytlldcogkcjnejaa", sum := "3aac65b481ae2353007c14289e4e11eb8c2d2be8b38fb4a14294b9a8aa2a70bc", func := "souterrain/souterrainlaw12.BookWithin", spec := "bookWithin", unfollowed := true, recurses := true, apart := false, narrowed := true }
def BookWithinUptoSaid : Prop := bookWithinUptoRow.holds Try.pinned (OpenSpec.upto bookWithinSpec)

/-- 'souterrainlaw12.BookWorst', WHERE WHAT IT READS IS OF BULK AT MOST 1048576: true; the input reads as it did. -/
def bookWorstUptoRow : OpenClaim := { program := "ytlldcogkcjnejaa", sum := "3aac65b481ae2353007c14289e4e11eb8c2d2be8b38fb4a14294b9a8aa2a70bc", func := "souterrain/souterrainlaw12.BookWorst", spec := "bookWorst", unfollowed := true, recurses := true, apart := false, narrowed := true }
def BookWorstUptoSaid : Prop := bookWorstUptoRow.holds Try.pinned (OpenSpec.upto bookWorstSpec)

/-- 'souterrainlaw12.BookApart', WHERE WHAT IT READS IS OF BULK AT MOST 1048576: true; the input reads as it did. -/
def bookApartUptoRow : OpenClaim := { program := "ytlldcogkcjnejaa", sum := "3aac65b481ae2353007c14289e4e11eb8c2d2be8b38fb4a14294b9a8aa2a70bc", func := "souterrain/souterrainlaw12.BookApart", spec := "bookApart", unfollowed := true, recurses := true, apart := false, narrowed := true }
def BookApartUptoSaid : Prop := bookApartUptoRow.holds Try.pinned (OpenSpec.upto bookApartSpec)

/-- 'souterrainlaw12.BookBack', WHERE WHAT IT READS IS OF BULK AT MOST 1048576: true; the input reads as it did. -/
def bookBackUptoRow : OpenClaim := { program := "ytlldcogkcjnejaa", sum := "3aac65b481ae2353007c14289e4e11eb8c2d2be8b38fb4a14294b9a8aa2a70bc", func := "souterrain/souterrainlaw12.BookBack", spec := "bookBack", unfollowed := true, recurses := true, apart := false, narrowed := true }
def BookBackUptoSaid : Prop := bookBackUptoRow.holds Try.pinned (OpenSpec.upto bookBackSpec)

/-- 'souterrainlaw12.BookBounds', WHERE WHAT IT READS IS OF BULK AT MOST 1048576: true; the input reads as it did. -/
def bookBoundsUptoRow : OpenClaim := { program := "ytlldcogkcjnejaa", sum := "3aac65b481ae2353007c14289e4e11eb8c2d2be8b38fb4a14294b9a8aa2a70bc", func := "souterrain/souterrainlaw12.BookBounds", spec := "bookBounds", unfollowed := true, recurses := true, apart := false, narrowed := true }
def BookBoundsUptoSaid : Prop := bookBoundsUptoRow.holds Try.pinned (OpenSpec.upto bookBoundsSpec)

end Rows
end Go.Proofs.Ytlldcogkcjnejaa
