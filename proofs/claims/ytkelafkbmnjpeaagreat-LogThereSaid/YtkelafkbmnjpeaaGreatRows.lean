/-
  No cell of these rows narrows 'for every input' (looked for: loops, veiled, ifaces, maps, wideKeys, modest, calm, conditions, laid).
  DERIVED. THE GIVEN ROWS OF THIS SEAT. 6 by the template 'for every input the law returns true; each argument reads behind the call as it read before'; 0 by the template 'total and deterministic' (their statements: YtkelafkbmnjpeaaGreatTotals.lean).
  GIVEN WITH THE SEED: the statements are not yours to turn. If you find one false, say at which input.
  Laid BY PROGRAM, IN A SANDBOX (cutbox-rows.mjs): the forced cells as the released guide's own fill.sh prints them over the translation 2b5cf2166b510fd4… (all of the seat's roots in one cut). By AI agents, Wed Nov 11 2026. No macro, syntax, notation, axiom, sorry.
-/
import Derived.Test.YtkelafkbmnjpeaaGreatChecked
import GoSem.Claim
import GoSem.ClaimJoined
import GoSem.ClaimMapViews
import Derived.JoinedTies
import Derived.KernelRfl
namespace Go.Proofs.YtkelafkbmnjpeaaGreat
/- THE CELL 'sum', in the pinned program and in every row, IS THE sha256 OF THE DUMP (.gsa) THAT YtkelafkbmnjpeaaGreatProg.lean LOADS. Nothing in Lean hashes anything: it is a label: what it is worth is what the hold of that sum in a sandbox is worth. -/
noncomputable def Tryz.pinned : Pinned := { name := "ytkelafkbmnjpeaagreat", sum := "2b5cf2166b510fd40fa35cf50ac8cf390089d3124ed688ca7ebb71a9aae48066", checked := Tryz.checked }
namespace Rows
def none {H : Type} : Left H := { results := [], args := [] }

/-- 'souterrainlaw15.LogPlays': WHATEVER THE INPUT: true; the input reads as it did. -/
def logPlaysSpec : ChangeSpec := { name := "logPlays", fn := fun _ => fun
  | [d1, d2, d3] => { results := [.lit (.bool true)], args := [d1, d2, d3] }
  | _ => none }
def logPlaysRow : OpenClaim := { program := "ytkelafkbmnjpeaagreat", sum := "2b5cf2166b510fd40fa35cf50ac8cf390089d3124ed688ca7ebb71a9aae48066", func := "souterrain/souterrainlaw15.LogPlays", spec := "logPlays", inPlace := ["internal/bytealg.IndexByteString", "internal/bytealg.abigen_runtime_cmpstring", "maps.clone"], unfollowed := true, recurses := true, apart := false }
def LogPlaysSaid : Prop := logPlaysRow.holds Tryz.pinned (OpenSpec.ofChange logPlaysSpec)

/-- ITS FALSE NEIGHBOUR: 'it returns false'. Refute it at one input. -/
def logPlaysWrong : ChangeSpec := { name := "logPlays", fn := fun _ => fun
  | [d1, d2, d3] => { results := [.lit (.bool false)], args := [d1, d2, d3] }
  | _ => none }
def LogPlaysWrongFalsely : Prop := logPlaysRow.holds Tryz.pinned (OpenSpec.ofChange logPlaysWrong)

/-- 'souterrainlaw15.LogThere': WHATEVER THE INPUT: true; the input reads as it did. -/
def logThereSpec : ChangeSpec := { name := "logThere", fn := fun _ => fun
  | [d1, d2] => { results := [.lit (.bool true)], args := [d1, d2] }
  | _ => none }
def logThereRow : OpenClaim := { program := "ytkelafkbmnjpeaagreat", sum := "2b5cf2166b510fd40fa35cf50ac8cf390089d3124ed688ca7ebb71a9aae48066", func := "souterrain/souterrainlaw15.LogThere", spec := "logThere", inPlace := ["internal/bytealg.IndexByteString", "internal/bytealg.abigen_runtime_cmpstring"], unfollowed := true, recurses := true, apart := false }
def LogThereSaid : Prop := logThereRow.holds Tryz.pinned (OpenSpec.ofChange logThereSpec)

/-- ITS FALSE NEIGHBOUR: 'it returns false'. Refute it at one input. -/
def logThereWrong : ChangeSpec := { name := "logThere", fn := fun _ => fun
  | [d1, d2] => { results := [.lit (.bool false)], args := [d1, d2] }
  | _ => none }
def LogThereWrongFalsely : Prop := logThereRow.holds Tryz.pinned (OpenSpec.ofChange logThereWrong)

/-- 'souterrainlaw15.LogClean': WHATEVER THE INPUT: true; the input reads as it did. -/
def logCleanSpec : ChangeSpec := { name := "logClean", fn := fun _ => fun
  | [d1, d2] => { results := [.lit (.bool true)], args := [d1, d2] }
  | _ => none }
def logCleanRow : OpenClaim := { program := "ytkelafkbmnjpeaagreat", sum := "2b5cf2166b510fd40fa35cf50ac8cf390089d3124ed688ca7ebb71a9aae48066", func := "souterrain/souterrainlaw15.LogClean", spec := "logClean", inPlace := ["internal/bytealg.IndexByteString", "internal/bytealg.abigen_runtime_cmpstring", "maps.clone"], unfollowed := true, recurses := true, apart := false }
def LogCleanSaid : Prop := logCleanRow.holds Tryz.pinned (OpenSpec.ofChange logCleanSpec)

/-- ITS FALSE NEIGHBOUR: 'it returns false'. Refute it at one input. -/
def logCleanWrong : ChangeSpec := { name := "logClean", fn := fun _ => fun
  | [d1, d2] => { results := [.lit (.bool false)], args := [d1, d2] }
  | _ => none }
def LogCleanWrongFalsely : Prop := logCleanRow.holds Tryz.pinned (OpenSpec.ofChange logCleanWrong)

/-- 'souterrainlaw15.LogDrops': WHATEVER THE INPUT: true; the input reads as it did. -/
def logDropsSpec : ChangeSpec := { name := "logDrops", fn := fun _ => fun
  | [d1, d2, d3] => { results := [.lit (.bool true)], args := [d1, d2, d3] }
  | _ => none }
def logDropsRow : OpenClaim := { program := "ytkelafkbmnjpeaagreat", sum := "2b5cf2166b510fd40fa35cf50ac8cf390089d3124ed688ca7ebb71a9aae48066", func := "souterrain/souterrainlaw15.LogDrops", spec := "logDrops", inPlace := ["internal/bytealg.IndexByteString", "internal/bytealg.abigen_runtime_cmpstring"], unfollowed := true, recurses := true, apart := false }
def LogDropsSaid : Prop := logDropsRow.holds Tryz.pinned (OpenSpec.ofChange logDropsSpec)

/-- ITS FALSE NEIGHBOUR: 'it returns false'. Refute it at one input. -/
def logDropsWrong : ChangeSpec := { name := "logDrops", fn := fun _ => fun
  | [d1, d2, d3] => { results := [.lit (.bool false)], args := [d1, d2, d3] }
  | _ => none }
def LogDropsWrongFalsely : Prop := logDropsRow.holds Tryz.pinned (OpenSpec.ofChange logDropsWrong)

/-- 'souterrainlaw15.LogRolls': WHATEVER THE INPUT: true; the input reads as it did. -/
def logRollsSpec : ChangeSpec := { name := "logRolls", fn := fun _ => fun
  | [d1, d2] => { results := [.lit (.bool true)], args := [d1, d2] }
  | _ => none }
def logRollsRow : OpenClaim := { program := "ytkelafkbmnjpeaagreat", sum := "2b5cf2166b510fd40fa35cf50ac8cf390089d3124ed688ca7ebb71a9aae48066", func := "souterrain/souterrainlaw15.LogRolls", spec := "logRolls", inPlace := ["internal/bytealg.IndexByteString", "internal/bytealg.abigen_runtime_cmpstring"], unfollowed := true, recurses := true, apart := false }
def LogRollsSaid : Prop := logRollsRow.holds Tryz.pinned (OpenSpec.ofChange logRollsSpec)

/-- ITS FALSE NEIGHBOUR: 'it returns false'. Refute it at one input. -/
def logRollsWrong : ChangeSpec := { name := "logRolls", fn := fun _ => fun
  | [d1, d2] => { results := [.lit (.bool false)], args := [d1, d2] }
  | _ => none }
def LogRollsWrongFalsely : Prop := logRollsRow.holds Tryz.pinned (OpenSpec.ofChange logRollsWrong)

/-- 'souterrainlaw15.LogGets': WHATEVER THE INPUT: true; the input reads as it did. -/
def logGetsSpec : ChangeSpec := { name := "logGets", fn := fun _ => fun
  | [d1, d2, d3] => { results := [.lit (.bool true)], args := [d1, d2, d3] }
  | _ => none }
def logGetsRow : OpenClaim := { program := "ytkelafkbmnjpeaagreat", sum := "2b5cf2166b510fd40fa35cf50ac8cf390089d3124ed688ca7ebb71a9aae48066", func := "souterrain/souterrainlaw15.LogGets", spec := "logGets", inPlace := ["internal/bytealg.IndexByteString", "internal/bytealg.abigen_runtime_cmpstring"], unfollowed := true, recurses := true, apart := false }
def LogGetsSaid : Prop := logGetsRow.holds Tryz.pinned (OpenSpec.ofChange logGetsSpec)

/-- ITS FALSE NEIGHBOUR: 'it returns false'. Refute it at one input. -/
def logGetsWrong : ChangeSpec := { name := "logGets", fn := fun _ => fun
  | [d1, d2, d3] => { results := [.lit (.bool false)], args := [d1, d2, d3] }
  | _ => none }
def LogGetsWrongFalsely : Prop := logGetsRow.holds Tryz.pinned (OpenSpec.ofChange logGetsWrong)

/- THE SECOND FORM. 'bulk': how many values and letters a reading holds, each counted each time it is reached (what is shared counts as often as it is met; a slice's spare places count too). A statement '..UptoSaid' is the law's where the arguments, and the package variables that the reading takes, are together of bulk at most 1048576: NARROWER than '..Said'. Prove '..Said' where nothing that the law and all that it calls make is longer than what came in: it says more and counts as full. Else prove '..UptoSaid'. A law counts once. -/
mutual
def uptoBulk {H : Type} : DataW H → Nat
  | .lit (.string bytes) => bytes.length + 1
  | .lit _ => 1
  | .nil => 1
  | .ptr d => uptoBulk d + 1
  | .slice elems spare => uptoBulkAll elems + uptoBulkAll spare + 1
  | .agg parts => uptoBulkAll parts + 1
  | .iface _ d => uptoBulk d + 1
  | .map entries => uptoBulkEntries entries + 1
  | .held _ => 1
def uptoBulkAll {H : Type} : List (DataW H) → Nat
  | [] => 0
  | d :: r => uptoBulk d + uptoBulkAll r
def uptoBulkEntries {H : Type} : List (Lit × DataW H) → Nat
  | [] => 0
  | x :: r => uptoBulkEntry x + uptoBulkEntries r
def uptoBulkEntry {H : Type} : Lit × DataW H → Nat
  | (.string bytes, d) => bytes.length + uptoBulk d + 1
  | (_, d) => uptoBulk d + 1
 end
def uptoSmall : (H : Type) → List (DataW H) → Bool := fun _ ds => decide (uptoBulkAll ds ≤ 1048576)
def OpenSpec.upto (s : _root_.Go.ChangeSpec) : _root_.Go.OpenSpec := { _root_.Go.OpenSpec.ofChange s with cond := some uptoSmall }

/-- 'souterrainlaw15.LogPlays', WHERE WHAT IT READS IS OF BULK AT MOST 1048576: true; the input reads as it did. -/
def logPlaysUptoRow : OpenClaim := { program := "ytkelafkbmnjpeaagreat", sum := "2b5cf2166b510fd40fa35cf50ac8cf390089d3124ed688ca7ebb71a9aae48066", func := "souterrain/souterrainlaw15.LogPlays", spec := "logPlays", inPlace := ["internal/bytealg.IndexByteString", "internal/bytealg.abigen_runtime_cmpstring", "maps.clone"], unfollowed := true, recurses := true, apart := false, narrowed := true }
def LogPlaysUptoSaid : Prop := logPlaysUptoRow.holds Tryz.pinned (OpenSpec.upto logPlaysSpec)

/-- 'souterrainlaw15.LogThere', WHERE WHAT IT READS IS OF BULK AT MOST 1048576: true; the input reads as it did. -/
def logThereUptoRow : OpenClaim := { program := "ytkelafkbmnjpeaagreat", sum := "2b5cf2166b510fd40fa35cf50ac8cf390089d3124ed688ca7ebb71a9aae48066", func := "souterrain/souterrainlaw15.LogThere", spec := "logThere", inPlace := ["internal/bytealg.IndexByteString", "internal/bytealg.abigen_runtime_cmpstring"], unfollowed := true, recurses := true, apart := false, narrowed := true }
def LogThereUptoSaid : Prop := logThereUptoRow.holds Tryz.pinned (OpenSpec.upto logThereSpec)

/-- 'souterrainlaw15.LogClean', WHERE WHAT IT READS IS OF BULK AT MOST 1048576: true; the input reads as it did. -/
def logCleanUptoRow : OpenClaim := { program := "ytkelafkbmnjpeaagreat", sum := "2b5cf2166b510fd40fa35cf50ac8cf390089d3124ed688ca7ebb71a9aae48066", func := "souterrain/souterrainlaw15.LogClean", spec := "logClean", inPlace := ["internal/bytealg.IndexByteString", "internal/bytealg.abigen_runtime_cmpstring", "maps.clone"], unfollowed := true, recurses := true, apart := false, narrowed := true }
def LogCleanUptoSaid : Prop := logCleanUptoRow.holds Tryz.pinned (OpenSpec.upto logCleanSpec)

/-- 'souterrainlaw15.LogDrops', WHERE WHAT IT READS IS OF BULK AT MOST 1048576: true; the input reads as it did. -/
def logDropsUptoRow : OpenClaim := { program := "ytkelafkbmnjpeaagreat", sum := "2b5cf2166b510fd40fa35cf50ac8cf390089d3124ed688ca7ebb71a9aae48066", func := "souterrain/souterrainlaw15.LogDrops", spec := "logDrops", inPlace := ["internal/bytealg.IndexByteString", "internal/bytealg.abigen_runtime_cmpstring"], unfollowed := true, recurses := true, apart := false, narrowed := true }
def LogDropsUptoSaid : Prop := logDropsUptoRow.holds Tryz.pinned (OpenSpec.upto logDropsSpec)

/-- 'souterrainlaw15.LogRolls', WHERE WHAT IT READS IS OF BULK AT MOST 1048576: true; the input reads as it did. -/
def logRollsUptoRow : OpenClaim := { program := "ytkelafkbmnjpeaagreat", sum := "2b5cf2166b510fd40fa35cf50ac8cf390089d3124ed688ca7ebb71a9aae48066", func := "souterrain/souterrainlaw15.LogRolls", spec := "logRolls", inPlace := ["internal/bytealg.IndexByteString", "internal/bytealg.abigen_runtime_cmpstring"], unfollowed := true, recurses := true, apart := false, narrowed := true }
def LogRollsUptoSaid : Prop := logRollsUptoRow.holds Tryz.pinned (OpenSpec.upto logRollsSpec)

/-- 'souterrainlaw15.LogGets', WHERE WHAT IT READS IS OF BULK AT MOST 1048576: true; the input reads as it did. -/
def logGetsUptoRow : OpenClaim := { program := "ytkelafkbmnjpeaagreat", sum := "2b5cf2166b510fd40fa35cf50ac8cf390089d3124ed688ca7ebb71a9aae48066", func := "souterrain/souterrainlaw15.LogGets", spec := "logGets", inPlace := ["internal/bytealg.IndexByteString", "internal/bytealg.abigen_runtime_cmpstring"], unfollowed := true, recurses := true, apart := false, narrowed := true }
def LogGetsUptoSaid : Prop := logGetsUptoRow.holds Tryz.pinned (OpenSpec.upto logGetsSpec)

end Rows
end Go.Proofs.YtkelafkbmnjpeaaGreat
