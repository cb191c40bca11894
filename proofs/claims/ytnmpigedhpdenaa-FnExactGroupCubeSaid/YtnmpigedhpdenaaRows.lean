/-
  No cell of these rows narrows 'for every input' (looked for: loops, veiled, ifaces, maps, wideKeys, modest, calm, conditions, laid).
  DERIVED. THE GIVEN ROWS OF THIS SEAT. 11 by the template 'for every input the law returns true; each argument reads behind the call as it read before'; 0 by the template 'total and deterministic' (their statements: YtnmpigedhpdenaaTotals.lean).
  GIVEN WITH THE SEED: the statements are not yours to turn. If you find one false, say at which input.
  Laid BY PROGRAM, IN A SANDBOX (cutbox-rows.mjs): the forced cells as the released guide's own fill.sh prints them over the translation 7abe33da811c7911… (all of the seat's roots in one cut). By AI agents, Wed Nov 11 2026. No macro, syntax, notation, axiom, sorry.
-/
import Derived.Test.YtnmpigedhpdenaaChecked
import GoSem.Claim
import GoSem.ClaimJoined
import GoSem.ClaimMapViews
import Derived.JoinedTies
import Derived.KernelRfl
namespace Go.Proofs.Ytnmpigedhpdenaa
/- THE CELL 'sum', in the pinned program and in every row, IS THE sha256 OF THE DUMP (.gsa) THAT YtnmpigedhpdenaaProg.lean LOADS. Nothing in Lean hashes anything: it is a label: what it is worth is what the hold of that sum in a sandbox is worth. -/
noncomputable def Try.pinned : Pinned := { name := "ytnmpigedhpdenaa", sum := "7abe33da811c7911ac0566b989de4d25383290ae42798a5009c0d832a07070b2", checked := Try.checked }
namespace Rows
def none {H : Type} : Left H := { results := [], args := [] }

/-- 'laws.FnExactIsCube': WHATEVER THE INPUT: true; the input reads as it did. -/
def fnExactIsCubeSpec : ChangeSpec := { name := "fnExactIsCube", fn := fun _ => fun
  | [d] => { results := [.lit (.bool true)], args := [d] }
  | _ => none }
def fnExactIsCubeRow : OpenClaim := { program := "ytnmpigedhpdenaa", sum := "7abe33da811c7911ac0566b989de4d25383290ae42798a5009c0d832a07070b2", func := "loop.example/g00908/laws.FnExactIsCube", spec := "fnExactIsCube", unfollowed := true, recurses := true, apart := false }
def FnExactIsCubeSaid : Prop := fnExactIsCubeRow.holds Try.pinned (OpenSpec.ofChange fnExactIsCubeSpec)

/-- ITS FALSE NEIGHBOUR: 'it returns false'. Refute it at one input. -/
def fnExactIsCubeWrong : ChangeSpec := { name := "fnExactIsCube", fn := fun _ => fun
  | [d] => { results := [.lit (.bool false)], args := [d] }
  | _ => none }
def FnExactIsCubeWrongFalsely : Prop := fnExactIsCubeRow.holds Try.pinned (OpenSpec.ofChange fnExactIsCubeWrong)

/-- 'laws.FnExactFirstBreak': WHATEVER THE INPUT: true; the input reads as it did. -/
def fnExactFirstBreakSpec : ChangeSpec := { name := "fnExactFirstBreak", fn := fun _ => fun
  | [d] => { results := [.lit (.bool true)], args := [d] }
  | _ => none }
def fnExactFirstBreakRow : OpenClaim := { program := "ytnmpigedhpdenaa", sum := "7abe33da811c7911ac0566b989de4d25383290ae42798a5009c0d832a07070b2", func := "loop.example/g00908/laws.FnExactFirstBreak", spec := "fnExactFirstBreak", unfollowed := true, recurses := true, apart := false }
def FnExactFirstBreakSaid : Prop := fnExactFirstBreakRow.holds Try.pinned (OpenSpec.ofChange fnExactFirstBreakSpec)

/-- ITS FALSE NEIGHBOUR: 'it returns false'. Refute it at one input. -/
def fnExactFirstBreakWrong : ChangeSpec := { name := "fnExactFirstBreak", fn := fun _ => fun
  | [d] => { results := [.lit (.bool false)], args := [d] }
  | _ => none }
def FnExactFirstBreakWrongFalsely : Prop := fnExactFirstBreakRow.holds Try.pinned (OpenSpec.ofChange fnExactFirstBreakWrong)

/-- 'laws.FnExactCubeOf': WHATEVER THE INPUT: true; the input reads as it did. -/
def fnExactCubeOfSpec : ChangeSpec := { name := "fnExactCubeOf", fn := fun _ => fun
  | [d1, d2] => { results := [.lit (.bool true)], args := [d1, d2] }
  | _ => none }
def fnExactCubeOfRow : OpenClaim := { program := "ytnmpigedhpdenaa", sum := "7abe33da811c7911ac0566b989de4d25383290ae42798a5009c0d832a07070b2", func := "loop.example/g00908/laws.FnExactCubeOf", spec := "fnExactCubeOf", unfollowed := true, recurses := true, apart := false }
def FnExactCubeOfSaid : Prop := fnExactCubeOfRow.holds Try.pinned (OpenSpec.ofChange fnExactCubeOfSpec)

/-- ITS FALSE NEIGHBOUR: 'it returns false'. Refute it at one input. -/
def fnExactCubeOfWrong : ChangeSpec := { name := "fnExactCubeOf", fn := fun _ => fun
  | [d1, d2] => { results := [.lit (.bool false)], args := [d1, d2] }
  | _ => none }
def FnExactCubeOfWrongFalsely : Prop := fnExactCubeOfRow.holds Try.pinned (OpenSpec.ofChange fnExactCubeOfWrong)

/-- 'laws.FnExactBaseOf': WHATEVER THE INPUT: true; the input reads as it did. -/
def fnExactBaseOfSpec : ChangeSpec := { name := "fnExactBaseOf", fn := fun _ => fun
  | [d] => { results := [.lit (.bool true)], args := [d] }
  | _ => none }
def fnExactBaseOfRow : OpenClaim := { program := "ytnmpigedhpdenaa", sum := "7abe33da811c7911ac0566b989de4d25383290ae42798a5009c0d832a07070b2", func := "loop.example/g00908/laws.FnExactBaseOf", spec := "fnExactBaseOf", unfollowed := true, recurses := true, apart := false }
def FnExactBaseOfSaid : Prop := fnExactBaseOfRow.holds Try.pinned (OpenSpec.ofChange fnExactBaseOfSpec)

/-- ITS FALSE NEIGHBOUR: 'it returns false'. Refute it at one input. -/
def fnExactBaseOfWrong : ChangeSpec := { name := "fnExactBaseOf", fn := fun _ => fun
  | [d] => { results := [.lit (.bool false)], args := [d] }
  | _ => none }
def FnExactBaseOfWrongFalsely : Prop := fnExactBaseOfRow.holds Try.pinned (OpenSpec.ofChange fnExactBaseOfWrong)

/-- 'laws.FnExactCubeCell': WHATEVER THE INPUT: true; the input reads as it did. -/
def fnExactCubeCellSpec : ChangeSpec := { name := "fnExactCubeCell", fn := fun _ => fun
  | [d1, d2] => { results := [.lit (.bool true)], args := [d1, d2] }
  | _ => none }
def fnExactCubeCellRow : OpenClaim := { program := "ytnmpigedhpdenaa", sum := "7abe33da811c7911ac0566b989de4d25383290ae42798a5009c0d832a07070b2", func := "loop.example/g00908/laws.FnExactCubeCell", spec := "fnExactCubeCell", unfollowed := true, recurses := true, apart := false }
def FnExactCubeCellSaid : Prop := fnExactCubeCellRow.holds Try.pinned (OpenSpec.ofChange fnExactCubeCellSpec)

/-- ITS FALSE NEIGHBOUR: 'it returns false'. Refute it at one input. -/
def fnExactCubeCellWrong : ChangeSpec := { name := "fnExactCubeCell", fn := fun _ => fun
  | [d1, d2] => { results := [.lit (.bool false)], args := [d1, d2] }
  | _ => none }
def FnExactCubeCellWrongFalsely : Prop := fnExactCubeCellRow.holds Try.pinned (OpenSpec.ofChange fnExactCubeCellWrong)

/-- 'laws.FnExactMarginOf': WHATEVER THE INPUT: true; the input reads as it did. -/
def fnExactMarginOfSpec : ChangeSpec := { name := "fnExactMarginOf", fn := fun _ => fun
  | [d1, d2] => { results := [.lit (.bool true)], args := [d1, d2] }
  | _ => none }
def fnExactMarginOfRow : OpenClaim := { program := "ytnmpigedhpdenaa", sum := "7abe33da811c7911ac0566b989de4d25383290ae42798a5009c0d832a07070b2", func := "loop.example/g00908/laws.FnExactMarginOf", spec := "fnExactMarginOf", unfollowed := true, recurses := true, apart := false }
def FnExactMarginOfSaid : Prop := fnExactMarginOfRow.holds Try.pinned (OpenSpec.ofChange fnExactMarginOfSpec)

/-- ITS FALSE NEIGHBOUR: 'it returns false'. Refute it at one input. -/
def fnExactMarginOfWrong : ChangeSpec := { name := "fnExactMarginOf", fn := fun _ => fun
  | [d1, d2] => { results := [.lit (.bool false)], args := [d1, d2] }
  | _ => none }
def FnExactMarginOfWrongFalsely : Prop := fnExactMarginOfRow.holds Try.pinned (OpenSpec.ofChange fnExactMarginOfWrong)

/-- 'laws.FnExactSliceOf': WHATEVER THE INPUT: true; the input reads as it did. -/
def fnExactSliceOfSpec : ChangeSpec := { name := "fnExactSliceOf", fn := fun _ => fun
  | [d1, d2, d3] => { results := [.lit (.bool true)], args := [d1, d2, d3] }
  | _ => none }
def fnExactSliceOfRow : OpenClaim := { program := "ytnmpigedhpdenaa", sum := "7abe33da811c7911ac0566b989de4d25383290ae42798a5009c0d832a07070b2", func := "loop.example/g00908/laws.FnExactSliceOf", spec := "fnExactSliceOf", unfollowed := true, recurses := true, apart := false }
def FnExactSliceOfSaid : Prop := fnExactSliceOfRow.holds Try.pinned (OpenSpec.ofChange fnExactSliceOfSpec)

/-- ITS FALSE NEIGHBOUR: 'it returns false'. Refute it at one input. -/
def fnExactSliceOfWrong : ChangeSpec := { name := "fnExactSliceOf", fn := fun _ => fun
  | [d1, d2, d3] => { results := [.lit (.bool false)], args := [d1, d2, d3] }
  | _ => none }
def FnExactSliceOfWrongFalsely : Prop := fnExactSliceOfRow.holds Try.pinned (OpenSpec.ofChange fnExactSliceOfWrong)

/-- 'laws.FnExactGroupCube': WHATEVER THE INPUT: true; the input reads as it did. -/
def fnExactGroupCubeSpec : ChangeSpec := { name := "fnExactGroupCube", fn := fun _ => fun
  | [d1, d2, d3] => { results := [.lit (.bool true)], args := [d1, d2, d3] }
  | _ => none }
def fnExactGroupCubeRow : OpenClaim := { program := "ytnmpigedhpdenaa", sum := "7abe33da811c7911ac0566b989de4d25383290ae42798a5009c0d832a07070b2", func := "loop.example/g00908/laws.FnExactGroupCube", spec := "fnExactGroupCube", unfollowed := true, recurses := true, apart := false }
def FnExactGroupCubeSaid : Prop := fnExactGroupCubeRow.holds Try.pinned (OpenSpec.ofChange fnExactGroupCubeSpec)

/-- ITS FALSE NEIGHBOUR: 'it returns false'. Refute it at one input. -/
def fnExactGroupCubeWrong : ChangeSpec := { name := "fnExactGroupCube", fn := fun _ => fun
  | [d1, d2, d3] => { results := [.lit (.bool false)], args := [d1, d2, d3] }
  | _ => none }
def FnExactGroupCubeWrongFalsely : Prop := fnExactGroupCubeRow.holds Try.pinned (OpenSpec.ofChange fnExactGroupCubeWrong)

/-- 'laws.FnExactDifferenceOf': WHATEVER THE INPUT: true; the input reads as it did. -/
def fnExactDifferenceOfSpec : ChangeSpec := { name := "fnExactDifferenceOf", fn := fun _ => fun
  | [d1, d2] => { results := [.lit (.bool true)], args := [d1, d2] }
  | _ => none }
def fnExactDifferenceOfRow : OpenClaim := { program := "ytnmpigedhpdenaa", sum := "7abe33da811c7911ac0566b989de4d25383290ae42798a5009c0d832a07070b2", func := "loop.example/g00908/laws.FnExactDifferenceOf", spec := "fnExactDifferenceOf", unfollowed := true, recurses := true, apart := false }
def FnExactDifferenceOfSaid : Prop := fnExactDifferenceOfRow.holds Try.pinned (OpenSpec.ofChange fnExactDifferenceOfSpec)

/-- ITS FALSE NEIGHBOUR: 'it returns false'. Refute it at one input. -/
def fnExactDifferenceOfWrong : ChangeSpec := { name := "fnExactDifferenceOf", fn := fun _ => fun
  | [d1, d2] => { results := [.lit (.bool false)], args := [d1, d2] }
  | _ => none }
def FnExactDifferenceOfWrongFalsely : Prop := fnExactDifferenceOfRow.holds Try.pinned (OpenSpec.ofChange fnExactDifferenceOfWrong)

/-- 'laws.FnExactPartsOf': WHATEVER THE INPUT: true; the input reads as it did. -/
def fnExactPartsOfSpec : ChangeSpec := { name := "fnExactPartsOf", fn := fun _ => fun
  | [d1, d2] => { results := [.lit (.bool true)], args := [d1, d2] }
  | _ => none }
def fnExactPartsOfRow : OpenClaim := { program := "ytnmpigedhpdenaa", sum := "7abe33da811c7911ac0566b989de4d25383290ae42798a5009c0d832a07070b2", func := "loop.example/g00908/laws.FnExactPartsOf", spec := "fnExactPartsOf", unfollowed := true, recurses := true, apart := false }
def FnExactPartsOfSaid : Prop := fnExactPartsOfRow.holds Try.pinned (OpenSpec.ofChange fnExactPartsOfSpec)

/-- ITS FALSE NEIGHBOUR: 'it returns false'. Refute it at one input. -/
def fnExactPartsOfWrong : ChangeSpec := { name := "fnExactPartsOf", fn := fun _ => fun
  | [d1, d2] => { results := [.lit (.bool false)], args := [d1, d2] }
  | _ => none }
def FnExactPartsOfWrongFalsely : Prop := fnExactPartsOfRow.holds Try.pinned (OpenSpec.ofChange fnExactPartsOfWrong)

/-- 'laws.FnExactIsGrouping': WHATEVER THE INPUT: true; the input reads as it did. -/
def fnExactIsGroupingSpec : ChangeSpec := { name := "fnExactIsGrouping", fn := fun _ => fun
  | [d1, d2] => { results := [.lit (.bool true)], args := [d1, d2] }
  | _ => none }
def fnExactIsGroupingRow : OpenClaim := { program := "ytnmpigedhpdenaa", sum := "7abe33da811c7911ac0566b989de4d25383290ae42798a5009c0d832a07070b2", func := "loop.example/g00908/laws.FnExactIsGrouping", spec := "fnExactIsGrouping", apart := false }
def FnExactIsGroupingSaid : Prop := fnExactIsGroupingRow.holds Try.pinned (OpenSpec.ofChange fnExactIsGroupingSpec)

/-- ITS FALSE NEIGHBOUR: 'it returns false'. Refute it at one input. -/
def fnExactIsGroupingWrong : ChangeSpec := { name := "fnExactIsGrouping", fn := fun _ => fun
  | [d1, d2] => { results := [.lit (.bool false)], args := [d1, d2] }
  | _ => none }
def FnExactIsGroupingWrongFalsely : Prop := fnExactIsGroupingRow.holds Try.pinned (OpenSpec.ofChange fnExactIsGroupingWrong)

/- THE SECOND FORM. 'bulk': how many values and letters a reading holds, each counted each time it is reached (what is shared counts as often as it is met; a slice's spare places count too). A statement '..UptoSaid' is the law's where the arguments, and the package variables that the reading takes, are together of bulk at most 1048576: NARROWER than '..Said'. Prove '..Said' where nothing that the law and all that it calls make is longer than what came in: it says more and counts as full. Else prove '..UptoSaid'. A law counts once. -/
mutual
def uptoBulk {H : Type} : DataW H → Nat
  | .lit (.string bytes) => bytes.length + 1
  | .lit _ => 1
  | .nil => 1
  | .ptr d => uptoBulk d + 1
  | .slice elems spare => uptoBulkAll elems + uptoBulkAll spare + 1
  | .agg parts => uptoBulkAll parts + 1
  | .iface _ d => uptoBulk d + 1
  | .map entries => uptoBulkEntries entries + 1
  | .held _ => 1
def uptoBulkAll {H : Type} : List (DataW H) → Nat
  | [] => 0
  | d :: r => uptoBulk d + uptoBulkAll r
def uptoBulkEntries {H : Type} : List (Lit × DataW H) → Nat
  | [] => 0
  | x :: r => uptoBulkEntry x + uptoBulkEntries r
def uptoBulkEntry {H : Type} : Lit × DataW H → Nat
  | (.string bytes, d) => bytes.length + uptoBulk d + 1
  | (_, d) => uptoBulk d + 1
 end
def uptoSmall : (H : Type) → List (DataW H) → Bool := fun _ ds => decide (uptoBulkAll ds ≤ 1048576)
def OpenSpec.upto (s : _root_.Go.ChangeSpec) : _root_.Go.OpenSpec := { _root_.Go.OpenSpec.ofChange s with cond := some uptoSmall }

/-- 'laws.FnExactIsCube', WHERE WHAT IT READS IS OF BULK AT MOST 1048576: true; the input reads as it did. -/
def fnExactIsCubeUptoRow : OpenClaim := { program := "ytnmpigedhpdenaa", sum := "7abe33da811c7911ac0566b989de4d25383290ae42798a5009c0d832a07070b2", func := "loop.example/g00908/laws.FnExactIsCube", spec := "fnExactIsCube", unfollowed := true, recurses := true, apart := false, narrowed := true }
def FnExactIsCubeUptoSaid : Prop := fnExactIsCubeUptoRow.holds Try.pinned (OpenSpec.upto fnExactIsCubeSpec)

/-- 'laws.FnExactFirstBreak', WHERE WHAT IT READS IS OF BULK AT MOST 1048576: true; the input reads as it did. -/
def fnExactFirstBreakUptoRow : OpenClaim := { program := "ytnmpigedhpdenaa", sum := "7abe33da811c7911ac0566b989de4d25383290ae42798a5009c0d832a07070b2", func := "loop.example/g00908/laws.FnExactFirstBreak", spec := "fnExactFirstBreak", unfollowed := true, recurses := true, apart := false, narrowed := true }
def FnExactFirstBreakUptoSaid : Prop := fnExactFirstBreakUptoRow.holds Try.pinned (OpenSpec.upto fnExactFirstBreakSpec)

/-- 'laws.FnExactCubeOf', WHERE WHAT IT READS IS OF BULK AT MOST 1048576: true; the input reads as it did. -/
def fnExactCubeOfUptoRow : OpenClaim := { program := "ytnmpigedhpdenaa", sum := "7abe33da811c7911ac0566b989de4d25383290ae42798a5009c0d832a07070b2", func := "loop.example/g00908/laws.FnExactCubeOf", spec := "fnExactCubeOf", unfollowed := true, recurses := true, apart := false, narrowed := true }
def FnExactCubeOfUptoSaid : Prop := fnExactCubeOfUptoRow.holds Try.pinned (OpenSpec.upto fnExactCubeOfSpec)

/-- 'laws.FnExactBaseOf', WHERE WHAT IT READS IS OF BULK AT MOST 1048576: true; the input reads as it did. -/
def fnExactBaseOfUptoRow : OpenClaim := { program := "ytnmpigedhpdenaa", sum := "7abe33da811c7911ac0566b989de4d25383290ae42798a5009c0d832a07070b2", func := "loop.example/g00908/laws.FnExactBaseOf", spec := "fnExactBaseOf", unfollowed := true, recurses := true, apart := false, narrowed := true }
def FnExactBaseOfUptoSaid : Prop := fnExactBaseOfUptoRow.holds Try.pinned (OpenSpec.upto fnExactBaseOfSpec)

/-- 'laws.FnExactCubeCell', WHERE WHAT IT READS IS OF BULK AT MOST 1048576: true; the input reads as it did. -/
def fnExactCubeCellUptoRow : OpenClaim := { program := "ytnmpigedhpdenaa", sum := "7abe33da811c7911ac0566b989de4d25383290ae42798a5009c0d832a07070b2", func := "loop.example/g00908/laws.FnExactCubeCell", spec := "fnExactCubeCell", unfollowed := true, recurses := true, apart := false, narrowed := true }
def FnExactCubeCellUptoSaid : Prop := fnExactCubeCellUptoRow.holds Try.pinned (OpenSpec.upto fnExactCubeCellSpec)

/-- 'laws.FnExactMarginOf', WHERE WHAT IT READS IS OF BULK AT MOST 1048576: true; the input reads as it did. -/
def fnExactMarginOfUptoRow : OpenClaim := { program := "ytnmpigedhpdenaa", sum := "7abe33da811c7911ac0566b989de4d25383290ae42798a5009c0d832a07070b2", func := "loop.example/g00908/laws.FnExactMarginOf", spec := "fnExactMarginOf", unfollowed := true, recurses := true, apart := false, narrowed := true }
def FnExactMarginOfUptoSaid : Prop := fnExactMarginOfUptoRow.holds Try.pinned (OpenSpec.upto fnExactMarginOfSpec)

/-- 'laws.FnExactSliceOf', WHERE WHAT IT READS IS OF BULK AT MOST 1048576: true; the input reads as it did. -/
def fnExactSliceOfUptoRow : OpenClaim := { program := "ytnmpigedhpdenaa", sum := "7abe33da811c7911ac0566b989de4d25383290ae42798a5009c0d832a07070b2", func := "loop.example/g00908/laws.FnExactSliceOf", spec := "fnExactSliceOf", unfollowed := true, recurses := true, apart := false, narrowed := true }
def FnExactSliceOfUptoSaid : Prop := fnExactSliceOfUptoRow.holds Try.pinned (OpenSpec.upto fnExactSliceOfSpec)

/-- 'laws.FnExactGroupCube', WHERE WHAT IT READS IS OF BULK AT MOST 1048576: true; the input reads as it did. -/
def fnExactGroupCubeUptoRow : OpenClaim := { program := "ytnmpigedhpdenaa", sum := "7abe33da811c7911ac0566b989de4d25383290ae42798a5009c0d832a07070b2", func := "loop.example/g00908/laws.FnExactGroupCube", spec := "fnExactGroupCube", unfollowed := true, recurses := true, apart := false, narrowed := true }
def FnExactGroupCubeUptoSaid : Prop := fnExactGroupCubeUptoRow.holds Try.pinned (OpenSpec.upto fnExactGroupCubeSpec)

/-- 'laws.FnExactDifferenceOf', WHERE WHAT IT READS IS OF BULK AT MOST 1048576: true; the input reads as it did. -/
def fnExactDifferenceOfUptoRow : OpenClaim := { program := "ytnmpigedhpdenaa", sum := "7abe33da811c7911ac0566b989de4d25383290ae42798a5009c0d832a07070b2", func := "loop.example/g00908/laws.FnExactDifferenceOf", spec := "fnExactDifferenceOf", unfollowed := true, recurses := true, apart := false, narrowed := true }
def FnExactDifferenceOfUptoSaid : Prop := fnExactDifferenceOfUptoRow.holds Try.pinned (OpenSpec.upto fnExactDifferenceOfSpec)

/-- 'laws.FnExactPartsOf', WHERE WHAT IT READS IS OF BULK AT MOST 1048576: true; the input reads as it did. -/
def fnExactPartsOfUptoRow : OpenClaim := { program := "ytnmpigedhpdenaa", sum := "7abe33da811c7911ac0566b989de4d25383290ae42798a5009c0d832a07070b2", func := "loop.example/g00908/laws.FnExactPartsOf", spec := "fnExactPartsOf", unfollowed := true, recurses := true, apart := false, narrowed := true }
def FnExactPartsOfUptoSaid : Prop := fnExactPartsOfUptoRow.holds Try.pinned (OpenSpec.upto fnExactPartsOfSpec)

/-- 'laws.FnExactIsGrouping', WHERE WHAT IT READS IS OF BULK AT MOST 1048576: true; the input reads as it did. -/
def fnExactIsGroupingUptoRow : OpenClaim := { program := "ytnmpigedhpdenaa", sum := "7abe33da811c7911ac0566b989de4d25383290ae42798a5009c0d832a07070b2", func := "loop.example/g00908/laws.FnExactIsGrouping", spec := "fnExactIsGrouping", apart := false, narrowed := true }
def FnExactIsGroupingUptoSaid : Prop := fnExactIsGroupingUptoRow.holds Try.pinned (OpenSpec.upto fnExactIsGroupingSpec)

end Rows
end Go.Proofs.Ytnmpigedhpdenaa
