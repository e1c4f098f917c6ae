/-
  No cell of these rows narrows 'for every input' (looked for: loops, veiled, ifaces, maps, wideKeys, modest, calm, conditions, laid).
  DERIVED. THE GIVEN ROWS OF THIS SEAT. 6 by the template 'for every input the law returns true; each argument reads behind the call as it read before'; 0 by the template 'total and deterministic' (their statements: YtdkpbphgaenlnaaTotals.lean).
  GIVEN WITH THE SEED: the statements are not yours to turn. If you find one false, say at which input.
  Laid BY PROGRAM, IN A SANDBOX (cutbox-rows.mjs): the forced cells as the released guide's own fill.sh prints them over the translation bf47d9f4b07ba3f9… (all of the seat's roots in one cut). By AI agents, Wed Nov 11 2026. No macro, syntax, notation, axiom, sorry.
-/
import Derived.Test.YtdkpbphgaenlnaaChecked
import GoSem.Claim
import GoSem.ClaimJoined
import GoSem.ClaimMapViews
import Derived.JoinedTies
import Derived.KernelRfl
namespace Go.Proofs.Ytdkpbphgaenlnaa
/- THE CELL 'sum', in the pinned program and in every row, IS THE sha256 OF THE DUMP (.gsa) THAT YtdkpbphgaenlnaaProg.lean LOADS. Nothing in Lean hashes anything: it is a label: what it is worth is what the hold of that sum in a sandbox is worth. -/
noncomputable def Try.pinned : Pinned := { name := "ytdkpbphgaenlnaa", sum := "bf47d9f4b07ba3f99045cdf0febe5e3b9faaf759a86545c1fdf1f6257d3fdc71", checked := Try.checked }
namespace Rows
def none {H : Type} : Left H := { results := [], args := [] }

/-- 'souterrainlaw10.ManTells': WHATEVER THE INPUT: true; the input reads as it did. -/
def manTellsSpec : ChangeSpec := { name := "manTells", fn := fun _ => fun
  | [d1, d2] => { results := [.lit (.bool true)], args := [d1, d2] }
  | _ => none }
def manTellsRow : OpenClaim := { program := "ytdkpbphgaenlnaa", sum := "bf47d9f4b07ba3f99045cdf0febe5e3b9faaf759a86545c1fdf1f6257d3fdc71", func := "souterrain/souterrainlaw10.ManTells", spec := "manTells", inPlace := ["maps.clone"], unfollowed := true, recurses := true, apart := false }
def ManTellsSaid : Prop := manTellsRow.holds Try.pinned (OpenSpec.ofChange manTellsSpec)

/-- ITS FALSE NEIGHBOUR: 'it returns false'. Refute it at one input. -/
def manTellsWrong : ChangeSpec := { name := "manTells", fn := fun _ => fun
  | [d1, d2] => { results := [.lit (.bool false)], args := [d1, d2] }
  | _ => none }
def ManTellsWrongFalsely : Prop := manTellsRow.holds Try.pinned (OpenSpec.ofChange manTellsWrong)

/-- 'souterrainlaw10.ManBack': WHATEVER THE INPUT: true; the input reads as it did. -/
def manBackSpec : ChangeSpec := { name := "manBack", fn := fun _ => fun
  | [d1, d2] => { results := [.lit (.bool true)], args := [d1, d2] }
  | _ => none }
def manBackRow : OpenClaim := { program := "ytdkpbphgaenlnaa", sum := "bf47d9f4b07ba3f99045cdf0febe5e3b9faaf759a86545c1fdf1f6257d3fdc71", func := "souterrain/souterrainlaw10.ManBack", spec := "manBack", inPlace := ["maps.clone"], unfollowed := true, recurses := true, apart := false }
def ManBackSaid : Prop := manBackRow.holds Try.pinned (OpenSpec.ofChange manBackSpec)

/-- ITS FALSE NEIGHBOUR: 'it returns false'. Refute it at one input. -/
def manBackWrong : ChangeSpec := { name := "manBack", fn := fun _ => fun
  | [d1, d2] => { results := [.lit (.bool false)], args := [d1, d2] }
  | _ => none }
def ManBackWrongFalsely : Prop := manBackRow.holds Try.pinned (OpenSpec.ofChange manBackWrong)

/-- 'souterrainlaw10.ManSwaps': WHATEVER THE INPUT: true; the input reads as it did. -/
def manSwapsSpec : ChangeSpec := { name := "manSwaps", fn := fun _ => fun
  | [d1, d2, d3, d4, d5, d6] => { results := [.lit (.bool true)], args := [d1, d2, d3, d4, d5, d6] }
  | _ => none }
def manSwapsRow : OpenClaim := { program := "ytdkpbphgaenlnaa", sum := "bf47d9f4b07ba3f99045cdf0febe5e3b9faaf759a86545c1fdf1f6257d3fdc71", func := "souterrain/souterrainlaw10.ManSwaps", spec := "manSwaps", inPlace := ["maps.clone"], unfollowed := true, recurses := true, apart := false }
def ManSwapsSaid : Prop := manSwapsRow.holds Try.pinned (OpenSpec.ofChange manSwapsSpec)

/-- ITS FALSE NEIGHBOUR: 'it returns false'. Refute it at one input. -/
def manSwapsWrong : ChangeSpec := { name := "manSwaps", fn := fun _ => fun
  | [d1, d2, d3, d4, d5, d6] => { results := [.lit (.bool false)], args := [d1, d2, d3, d4, d5, d6] }
  | _ => none }
def ManSwapsWrongFalsely : Prop := manSwapsRow.holds Try.pinned (OpenSpec.ofChange manSwapsWrong)

/-- 'souterrainlaw10.ManSpoilt': WHATEVER THE INPUT: true; the input reads as it did. -/
def manSpoiltSpec : ChangeSpec := { name := "manSpoilt", fn := fun _ => fun
  | [d1, d2, d3] => { results := [.lit (.bool true)], args := [d1, d2, d3] }
  | _ => none }
def manSpoiltRow : OpenClaim := { program := "ytdkpbphgaenlnaa", sum := "bf47d9f4b07ba3f99045cdf0febe5e3b9faaf759a86545c1fdf1f6257d3fdc71", func := "souterrain/souterrainlaw10.ManSpoilt", spec := "manSpoilt", inPlace := ["maps.clone"], unfollowed := true, recurses := true, apart := false }
def ManSpoiltSaid : Prop := manSpoiltRow.holds Try.pinned (OpenSpec.ofChange manSpoiltSpec)

/-- ITS FALSE NEIGHBOUR: 'it returns false'. Refute it at one input. -/
def manSpoiltWrong : ChangeSpec := { name := "manSpoilt", fn := fun _ => fun
  | [d1, d2, d3] => { results := [.lit (.bool false)], args := [d1, d2, d3] }
  | _ => none }
def ManSpoiltWrongFalsely : Prop := manSpoiltRow.holds Try.pinned (OpenSpec.ofChange manSpoiltWrong)

/-- 'souterrainlaw10.ManAgain': WHATEVER THE INPUT: true; the input reads as it did. -/
def manAgainSpec : ChangeSpec := { name := "manAgain", fn := fun _ => fun
  | [d] => { results := [.lit (.bool true)], args := [d] }
  | _ => none }
def manAgainRow : OpenClaim := { program := "ytdkpbphgaenlnaa", sum := "bf47d9f4b07ba3f99045cdf0febe5e3b9faaf759a86545c1fdf1f6257d3fdc71", func := "souterrain/souterrainlaw10.ManAgain", spec := "manAgain", inPlace := ["maps.clone"], unfollowed := true, recurses := true, apart := false }
def ManAgainSaid : Prop := manAgainRow.holds Try.pinned (OpenSpec.ofChange manAgainSpec)

/-- ITS FALSE NEIGHBOUR: 'it returns false'. Refute it at one input. -/
def manAgainWrong : ChangeSpec := { name := "manAgain", fn := fun _ => fun
  | [d] => { results := [.lit (.bool false)], args := [d] }
  | _ => none }
def ManAgainWrongFalsely : Prop := manAgainRow.holds Try.pinned (OpenSpec.ofChange manAgainWrong)

/-- 'souterrainlaw09.SegSpoilt': WHATEVER THE INPUT: true; the input reads as it did. -/
def segSpoiltSpec : ChangeSpec := { name := "segSpoilt", fn := fun _ => fun
  | [d1, d2, d3, d4] => { results := [.lit (.bool true)], args := [d1, d2, d3, d4] }
  | _ => none }
def segSpoiltRow : OpenClaim := { program := "ytdkpbphgaenlnaa", sum := "bf47d9f4b07ba3f99045cdf0febe5e3b9faaf759a86545c1fdf1f6257d3fdc71", func := "souterrain/souterrainlaw09.SegSpoilt", spec := "segSpoilt", unfollowed := true, recurses := true, apart := false }
def SegSpoiltSaid : Prop := segSpoiltRow.holds Try.pinned (OpenSpec.ofChange segSpoiltSpec)

/-- ITS FALSE NEIGHBOUR: 'it returns false'. Refute it at one input. -/
def segSpoiltWrong : ChangeSpec := { name := "segSpoilt", fn := fun _ => fun
  | [d1, d2, d3, d4] => { results := [.lit (.bool false)], args := [d1, d2, d3, d4] }
  | _ => none }
def SegSpoiltWrongFalsely : Prop := segSpoiltRow.holds Try.pinned (OpenSpec.ofChange segSpoiltWrong)

/- THE SECOND FORM. 'bulk': how many values and letters a reading holds, each counted each time it is reached (what is shared counts as often as it is met; a slice's spare places count too). A statement '..UptoSaid' is the law's where the arguments, and the package variables that the reading takes, are together of bulk at most 1048576: NARROWER than '..Said'. Prove '..Said' where nothing that the law and all that it calls make is longer than what came in: it says more and counts as full. Else prove '..UptoSaid'. A law counts once. -/
mutual
def uptoBulk {H : Type} : DataW H → Nat
  | .lit (.string bytes) => bytes.length + 1
  | .lit _ => 1
  | .nil => 1
  | .ptr d => uptoBulk d + 1
  | .slice elems spare => uptoBulkAll elems + uptoBulkAll spare + 1
  | .agg parts => uptoBulkAll parts + 1
  | .iface _ d => uptoBulk d + 1
  | .map entries => uptoBulkEntries entries + 1
  | .held _ => 1
def uptoBulkAll {H : Type} : List (DataW H) → Nat
  | [] => 0
  | d :: r => uptoBulk d + uptoBulkAll r
def uptoBulkEntries {H : Type} : List (Lit × DataW H) → Nat
  | [] => 0
  | x :: r => uptoBulkEntry x + uptoBulkEntries r
def uptoBulkEntry {H : Type} : Lit × DataW H → Nat
  | (.string bytes, d) => bytes.length + uptoBulk d + 1
  | (_, d) => uptoBulk d + 1
 end
def uptoSmall : (H : Type) → List (DataW H) → Bool := fun _ ds => decide (uptoBulkAll ds ≤ 1048576)
def OpenSpec.upto (s : _root_.Go.ChangeSpec) : _root_.Go.OpenSpec := { _root_.Go.OpenSpec.ofChange s with cond := some uptoSmall }

/-- 'souterrainlaw10.ManTells', WHERE WHAT IT READS IS OF BULK AT MOST 1048576: true; the input reads as it did. -/
def manTellsUptoRow : OpenClaim := { program := "ytdkpbphgaenlnaa", sum := "bf47d9f4b07ba3f99045cdf0febe5e3b9faaf759a86545c1fdf1f6257d3fdc71", func := "souterrain/souterrainlaw10.ManTells", spec := "manTells", inPlace := ["maps.clone"], unfollowed := true, recurses := true, apart := false, narrowed := true }
def ManTellsUptoSaid : Prop := manTellsUptoRow.holds Try.pinned (OpenSpec.upto manTellsSpec)

/-- 'souterrainlaw10.ManBack', WHERE WHAT IT READS IS OF BULK AT MOST 1048576: true; the input reads as it did. -/
def manBackUptoRow : OpenClaim := { program := "ytdkpbphgaenlnaa", sum := "bf47d9f4b07ba3f99045cdf0febe5e3b9faaf759a86545c1fdf1f6257d3fdc71", func := "souterrain/souterrainlaw10.ManBack", spec := "manBack", inPlace := ["maps.clone"], unfollowed := true, recurses := true, apart := false, narrowed := true }
def ManBackUptoSaid : Prop := manBackUptoRow.holds Try.pinned (OpenSpec.upto manBackSpec)

/-- 'souterrainlaw10.ManSwaps', WHERE WHAT IT READS IS OF BULK AT MOST 1048576: true; the input reads as it did. -/
def manSwapsUptoRow : OpenClaim := { program := "ytdkpbphgaenlnaa", sum := "bf47d9f4b07ba3f99045cdf0febe5e3b9faaf759a86545c1fdf1f6257d3fdc71", func := "souterrain/souterrainlaw10.ManSwaps", spec := "manSwaps", inPlace := ["maps.clone"], unfollowed := true, recurses := true, apart := false, narrowed := true }
def ManSwapsUptoSaid : Prop := manSwapsUptoRow.holds Try.pinned (OpenSpec.upto manSwapsSpec)

/-- 'souterrainlaw10.ManSpoilt', WHERE WHAT IT READS IS OF BULK AT MOST 1048576: true; the input reads as it did. -/
def manSpoiltUptoRow : OpenClaim := { program := "ytdkpbphgaenlnaa", sum := "bf47d9f4b07ba3f99045cdf0febe5e3b9faaf759a86545c1fdf1f6257d3fdc71", func := "souterrain/souterrainlaw10.ManSpoilt", spec := "manSpoilt", inPlace := ["maps.clone"], unfollowed := true, recurses := true, apart := false, narrowed := true }
def ManSpoiltUptoSaid : Prop := manSpoiltUptoRow.holds Try.pinned (OpenSpec.upto manSpoiltSpec)

/-- 'souterrainlaw10.ManAgain', WHERE WHAT IT READS IS OF BULK AT MOST 1048576: true; the input reads as it did. -/
def manAgainUptoRow : OpenClaim := { program := "ytdkpbphgaenlnaa", sum := "bf47d9f4b07ba3f99045cdf0febe5e3b9faaf759a86545c1fdf1f6257d3fdc71", func := "souterrain/souterrainlaw10.ManAgain", spec := "manAgain", inPlace := ["maps.clone"], unfollowed := true, recurses := true, apart := false, narrowed := true }
def ManAgainUptoSaid : Prop := manAgainUptoRow.holds Try.pinned (OpenSpec.upto manAgainSpec)

/-- 'souterrainlaw09.SegSpoilt', WHERE WHAT IT READS IS OF BULK AT MOST 1048576: true; the input reads as it did. -/
def segSpoiltUptoRow : OpenClaim := { program := "ytdkpbphgaenlnaa", sum := "bf47d9f4b07ba3f99045cdf0febe5e3b9faaf759a86545c1fdf1f6257d3fdc71", func := "souterrain/souterrainlaw09.SegSpoilt", spec := "segSpoilt", unfollowed := true, recurses := true, apart := false, narrowed := true }
def SegSpoiltUptoSaid : Prop := segSpoiltUptoRow.holds Try.pinned (OpenSpec.upto segSpoiltSpec)

end Rows
end Go.Proofs.Ytdkpbphgaenlnaa
