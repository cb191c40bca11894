/-
  No cell of these rows narrows 'for every input' (looked for: loops, veiled, ifaces, maps, wideKeys, modest, calm, conditions, laid).
  DERIVED. THE GIVEN ROWS OF THIS SEAT. 11 by the template 'for every input the law returns true; each argument reads behind the call as it read before'; 0 by the template 'total and deterministic' (their statements: YtnmpigedhpdenabTotals.lean).
  GIVEN WITH THE SEED: the statements are not yours to turn. If you find one false, say at which input.
  Laid BY PROGRAM, IN A SANDBOX (cutbox-rows.mjs): the forced cells as the released guide's own fill.sh prints them over the translation 96252a332dc0dd8d… (all of the seat's roots in one cut). By AI agents, Wed Nov 11 2026. No macro, syntax, notation, axiom, sorry.
-/
import Derived.Test.YtnmpigedhpdenabChecked
import GoSem.Claim
import GoSem.ClaimJoined
import GoSem.ClaimMapViews
import Derived.JoinedTies
import Derived.KernelRfl
namespace Go.Proofs.Ytnmpigedhpdenab
/- THE CELL 'sum', in the pinned program and in every row, IS THE sha256 OF THE DUMP (.gsa) THAT YtnmpigedhpdenabProg.lean LOADS. Nothing in Lean hashes anything: it is a label: what it is worth is what the hold of that sum in a sandbox is worth. -/
noncomputable def Try.pinned : Pinned := { name := "ytnmpigedhpdenab", sum := "96252a332dc0dd8dbef7952bb6e8bbb097fc956d4767556ea4c7f8513554444c", checked := Try.checked }
namespace Rows
def none {H : Type} : Left H := { results := [], args := [] }

/-- 'laws.FnCubes': WHATEVER THE INPUT: true; the input reads as it did. -/
def fnCubesSpec : ChangeSpec := { name := "fnCubes", fn := fun _ => fun
  | [d1, d2] => { results := [.lit (.bool true)], args := [d1, d2] }
  | _ => none }
def fnCubesRow : OpenClaim := { program := "ytnmpigedhpdenab", sum := "96252a332dc0dd8dbef7952bb6e8bbb097fc956d4767556ea4c7f8513554444c", func := "loop.example/g00908/laws.FnCubes", spec := "fnCubes", unfollowed := true, recurses := true, apart := false }
def FnCubesSaid : Prop := fnCubesRow.holds Try.pinned (OpenSpec.ofChange fnCubesSpec)

/-- ITS FALSE NEIGHBOUR: 'it returns false'. Refute it at one input. -/
def fnCubesWrong : ChangeSpec := { name := "fnCubes", fn := fun _ => fun
  | [d1, d2] => { results := [.lit (.bool false)], args := [d1, d2] }
  | _ => none }
def FnCubesWrongFalsely : Prop := fnCubesRow.holds Try.pinned (OpenSpec.ofChange fnCubesWrong)

/-- 'laws.FnSlices': WHATEVER THE INPUT: true; the input reads as it did. -/
def fnSlicesSpec : ChangeSpec := { name := "fnSlices", fn := fun _ => fun
  | [d1, d2] => { results := [.lit (.bool true)], args := [d1, d2] }
  | _ => none }
def fnSlicesRow : OpenClaim := { program := "ytnmpigedhpdenab", sum := "96252a332dc0dd8dbef7952bb6e8bbb097fc956d4767556ea4c7f8513554444c", func := "loop.example/g00908/laws.FnSlices", spec := "fnSlices", unfollowed := true, recurses := true, apart := false }
def FnSlicesSaid : Prop := fnSlicesRow.holds Try.pinned (OpenSpec.ofChange fnSlicesSpec)

/-- ITS FALSE NEIGHBOUR: 'it returns false'. Refute it at one input. -/
def fnSlicesWrong : ChangeSpec := { name := "fnSlices", fn := fun _ => fun
  | [d1, d2] => { results := [.lit (.bool false)], args := [d1, d2] }
  | _ => none }
def FnSlicesWrongFalsely : Prop := fnSlicesRow.holds Try.pinned (OpenSpec.ofChange fnSlicesWrong)

/-- 'laws.FnExactGroupSchema': WHATEVER THE INPUT: true; the input reads as it did. -/
def fnExactGroupSchemaSpec : ChangeSpec := { name := "fnExactGroupSchema", fn := fun _ => fun
  | [d1, d2] => { results := [.lit (.bool true)], args := [d1, d2] }
  | _ => none }
def fnExactGroupSchemaRow : OpenClaim := { program := "ytnmpigedhpdenab", sum := "96252a332dc0dd8dbef7952bb6e8bbb097fc956d4767556ea4c7f8513554444c", func := "loop.example/g00908/laws.FnExactGroupSchema", spec := "fnExactGroupSchema", apart := false }
def FnExactGroupSchemaSaid : Prop := fnExactGroupSchemaRow.holds Try.pinned (OpenSpec.ofChange fnExactGroupSchemaSpec)

/-- ITS FALSE NEIGHBOUR: 'it returns false'. Refute it at one input. -/
def fnExactGroupSchemaWrong : ChangeSpec := { name := "fnExactGroupSchema", fn := fun _ => fun
  | [d1, d2] => { results := [.lit (.bool false)], args := [d1, d2] }
  | _ => none }
def FnExactGroupSchemaWrongFalsely : Prop := fnExactGroupSchemaRow.holds Try.pinned (OpenSpec.ofChange fnExactGroupSchemaWrong)

/-- 'laws.FnExactGroupValues': WHATEVER THE INPUT: true; the input reads as it did. -/
def fnExactGroupValuesSpec : ChangeSpec := { name := "fnExactGroupValues", fn := fun _ => fun
  | [d1, d2, d3] => { results := [.lit (.bool true)], args := [d1, d2, d3] }
  | _ => none }
def fnExactGroupValuesRow : OpenClaim := { program := "ytnmpigedhpdenab", sum := "96252a332dc0dd8dbef7952bb6e8bbb097fc956d4767556ea4c7f8513554444c", func := "loop.example/g00908/laws.FnExactGroupValues", spec := "fnExactGroupValues", apart := false }
def FnExactGroupValuesSaid : Prop := fnExactGroupValuesRow.holds Try.pinned (OpenSpec.ofChange fnExactGroupValuesSpec)

/-- ITS FALSE NEIGHBOUR: 'it returns false'. Refute it at one input. -/
def fnExactGroupValuesWrong : ChangeSpec := { name := "fnExactGroupValues", fn := fun _ => fun
  | [d1, d2, d3] => { results := [.lit (.bool false)], args := [d1, d2, d3] }
  | _ => none }
def FnExactGroupValuesWrongFalsely : Prop := fnExactGroupValuesRow.holds Try.pinned (OpenSpec.ofChange fnExactGroupValuesWrong)

/-- 'laws.FnExactGroupData': WHATEVER THE INPUT: true; the input reads as it did. -/
def fnExactGroupDataSpec : ChangeSpec := { name := "fnExactGroupData", fn := fun _ => fun
  | [d1, d2, d3] => { results := [.lit (.bool true)], args := [d1, d2, d3] }
  | _ => none }
def fnExactGroupDataRow : OpenClaim := { program := "ytnmpigedhpdenab", sum := "96252a332dc0dd8dbef7952bb6e8bbb097fc956d4767556ea4c7f8513554444c", func := "loop.example/g00908/laws.FnExactGroupData", spec := "fnExactGroupData", apart := false }
def FnExactGroupDataSaid : Prop := fnExactGroupDataRow.holds Try.pinned (OpenSpec.ofChange fnExactGroupDataSpec)

/-- ITS FALSE NEIGHBOUR: 'it returns false'. Refute it at one input. -/
def fnExactGroupDataWrong : ChangeSpec := { name := "fnExactGroupData", fn := fun _ => fun
  | [d1, d2, d3] => { results := [.lit (.bool false)], args := [d1, d2, d3] }
  | _ => none }
def FnExactGroupDataWrongFalsely : Prop := fnExactGroupDataRow.holds Try.pinned (OpenSpec.ofChange fnExactGroupDataWrong)

/-- 'laws.FnExactAddCells': WHATEVER THE INPUT: true; the input reads as it did. -/
def fnExactAddCellsSpec : ChangeSpec := { name := "fnExactAddCells", fn := fun _ => fun
  | [d1, d2] => { results := [.lit (.bool true)], args := [d1, d2] }
  | _ => none }
def fnExactAddCellsRow : OpenClaim := { program := "ytnmpigedhpdenab", sum := "96252a332dc0dd8dbef7952bb6e8bbb097fc956d4767556ea4c7f8513554444c", func := "loop.example/g00908/laws.FnExactAddCells", spec := "fnExactAddCells", unfollowed := true, recurses := true, apart := false }
def FnExactAddCellsSaid : Prop := fnExactAddCellsRow.holds Try.pinned (OpenSpec.ofChange fnExactAddCellsSpec)

/-- ITS FALSE NEIGHBOUR: 'it returns false'. Refute it at one input. -/
def fnExactAddCellsWrong : ChangeSpec := { name := "fnExactAddCells", fn := fun _ => fun
  | [d1, d2] => { results := [.lit (.bool false)], args := [d1, d2] }
  | _ => none }
def FnExactAddCellsWrongFalsely : Prop := fnExactAddCellsRow.holds Try.pinned (OpenSpec.ofChange fnExactAddCellsWrong)

/-- 'laws.FnExactCanComplete': WHATEVER THE INPUT: true; the input reads as it did. -/
def fnExactCanCompleteSpec : ChangeSpec := { name := "fnExactCanComplete", fn := fun _ => fun
  | [d1, d2, d3, d4] => { results := [.lit (.bool true)], args := [d1, d2, d3, d4] }
  | _ => none }
def fnExactCanCompleteRow : OpenClaim := { program := "ytnmpigedhpdenab", sum := "96252a332dc0dd8dbef7952bb6e8bbb097fc956d4767556ea4c7f8513554444c", func := "loop.example/g00908/laws.FnExactCanComplete", spec := "fnExactCanComplete", unfollowed := true, recurses := true, apart := false }
def FnExactCanCompleteSaid : Prop := fnExactCanCompleteRow.holds Try.pinned (OpenSpec.ofChange fnExactCanCompleteSpec)

/-- ITS FALSE NEIGHBOUR: 'it returns false'. Refute it at one input. -/
def fnExactCanCompleteWrong : ChangeSpec := { name := "fnExactCanComplete", fn := fun _ => fun
  | [d1, d2, d3, d4] => { results := [.lit (.bool false)], args := [d1, d2, d3, d4] }
  | _ => none }
def FnExactCanCompleteWrongFalsely : Prop := fnExactCanCompleteRow.holds Try.pinned (OpenSpec.ofChange fnExactCanCompleteWrong)

/-- 'laws.FnExactCompletionOf': WHATEVER THE INPUT: true; the input reads as it did. -/
def fnExactCompletionOfSpec : ChangeSpec := { name := "fnExactCompletionOf", fn := fun _ => fun
  | [d1, d2, d3, d4] => { results := [.lit (.bool true)], args := [d1, d2, d3, d4] }
  | _ => none }
def fnExactCompletionOfRow : OpenClaim := { program := "ytnmpigedhpdenab", sum := "96252a332dc0dd8dbef7952bb6e8bbb097fc956d4767556ea4c7f8513554444c", func := "loop.example/g00908/laws.FnExactCompletionOf", spec := "fnExactCompletionOf", unfollowed := true, recurses := true, apart := false }
def FnExactCompletionOfSaid : Prop := fnExactCompletionOfRow.holds Try.pinned (OpenSpec.ofChange fnExactCompletionOfSpec)

/-- ITS FALSE NEIGHBOUR: 'it returns false'. Refute it at one input. -/
def fnExactCompletionOfWrong : ChangeSpec := { name := "fnExactCompletionOf", fn := fun _ => fun
  | [d1, d2, d3, d4] => { results := [.lit (.bool false)], args := [d1, d2, d3, d4] }
  | _ => none }
def FnExactCompletionOfWrongFalsely : Prop := fnExactCompletionOfRow.holds Try.pinned (OpenSpec.ofChange fnExactCompletionOfWrong)

/-- 'laws.FnExactEditsOnly': WHATEVER THE INPUT: true; the input reads as it did. -/
def fnExactEditsOnlySpec : ChangeSpec := { name := "fnExactEditsOnly", fn := fun _ => fun
  | [d1, d2, d3] => { results := [.lit (.bool true)], args := [d1, d2, d3] }
  | _ => none }
def fnExactEditsOnlyRow : OpenClaim := { program := "ytnmpigedhpdenab", sum := "96252a332dc0dd8dbef7952bb6e8bbb097fc956d4767556ea4c7f8513554444c", func := "loop.example/g00908/laws.FnExactEditsOnly", spec := "fnExactEditsOnly", unfollowed := true, recurses := true, apart := false }
def FnExactEditsOnlySaid : Prop := fnExactEditsOnlyRow.holds Try.pinned (OpenSpec.ofChange fnExactEditsOnlySpec)

/-- ITS FALSE NEIGHBOUR: 'it returns false'. Refute it at one input. -/
def fnExactEditsOnlyWrong : ChangeSpec := { name := "fnExactEditsOnly", fn := fun _ => fun
  | [d1, d2, d3] => { results := [.lit (.bool false)], args := [d1, d2, d3] }
  | _ => none }
def FnExactEditsOnlyWrongFalsely : Prop := fnExactEditsOnlyRow.holds Try.pinned (OpenSpec.ofChange fnExactEditsOnlyWrong)

/-- 'laws.FnExactChangeCost': WHATEVER THE INPUT: true; the input reads as it did. -/
def fnExactChangeCostSpec : ChangeSpec := { name := "fnExactChangeCost", fn := fun _ => fun
  | [d1, d2, d3, d4] => { results := [.lit (.bool true)], args := [d1, d2, d3, d4] }
  | _ => none }
def fnExactChangeCostRow : OpenClaim := { program := "ytnmpigedhpdenab", sum := "96252a332dc0dd8dbef7952bb6e8bbb097fc956d4767556ea4c7f8513554444c", func := "loop.example/g00908/laws.FnExactChangeCost", spec := "fnExactChangeCost", apart := false }
def FnExactChangeCostSaid : Prop := fnExactChangeCostRow.holds Try.pinned (OpenSpec.ofChange fnExactChangeCostSpec)

/-- ITS FALSE NEIGHBOUR: 'it returns false'. Refute it at one input. -/
def fnExactChangeCostWrong : ChangeSpec := { name := "fnExactChangeCost", fn := fun _ => fun
  | [d1, d2, d3, d4] => { results := [.lit (.bool false)], args := [d1, d2, d3, d4] }
  | _ => none }
def FnExactChangeCostWrongFalsely : Prop := fnExactChangeCostRow.holds Try.pinned (OpenSpec.ofChange fnExactChangeCostWrong)

/-- 'laws.FnExactNearestDonor': WHATEVER THE INPUT: true; the input reads as it did. -/
def fnExactNearestDonorSpec : ChangeSpec := { name := "fnExactNearestDonor", fn := fun _ => fun
  | [d1, d2, d3, d4, d5] => { results := [.lit (.bool true)], args := [d1, d2, d3, d4, d5] }
  | _ => none }
def fnExactNearestDonorRow : OpenClaim := { program := "ytnmpigedhpdenab", sum := "96252a332dc0dd8dbef7952bb6e8bbb097fc956d4767556ea4c7f8513554444c", func := "loop.example/g00908/laws.FnExactNearestDonor", spec := "fnExactNearestDonor", apart := false }
def FnExactNearestDonorSaid : Prop := fnExactNearestDonorRow.holds Try.pinned (OpenSpec.ofChange fnExactNearestDonorSpec)

/-- ITS FALSE NEIGHBOUR: 'it returns false'. Refute it at one input. -/
def fnExactNearestDonorWrong : ChangeSpec := { name := "fnExactNearestDonor", fn := fun _ => fun
  | [d1, d2, d3, d4, d5] => { results := [.lit (.bool false)], args := [d1, d2, d3, d4, d5] }
  | _ => none }
def FnExactNearestDonorWrongFalsely : Prop := fnExactNearestDonorRow.holds Try.pinned (OpenSpec.ofChange fnExactNearestDonorWrong)

/- THE SECOND FORM. 'bulk': how many values and letters a reading holds, each counted each time it is reached (what is shared counts as often as it is met; a slice's spare places count too). A statement '..UptoSaid' is the law's where the arguments, and the package variables that the reading takes, are together of bulk at most 1048576: NARROWER than '..Said'. Prove '..Said' where nothing that the law and all that it calls make is longer than what came in: it says more and counts as full. Else prove '..UptoSaid'. A law counts once. -/
mutual
def uptoBulk {H : Type} : DataW H → Nat
  | .lit (.string bytes) => bytes.length + 1
  | .lit _ => 1
  | .nil => 1
  | .ptr d => uptoBulk d + 1
  | .slice elems spare => uptoBulkAll elems + uptoBulkAll spare + 1
  | .agg parts => uptoBulkAll parts + 1
  | .iface _ d => uptoBulk d + 1
  | .map entries => uptoBulkEntries entries + 1
  | .held _ => 1
def uptoBulkAll {H : Type} : List (DataW H) → Nat
  | [] => 0
  | d :: r => uptoBulk d + uptoBulkAll r
def uptoBulkEntries {H : Type} : List (Lit × DataW H) → Nat
  | [] => 0
  | x :: r => uptoBulkEntry x + uptoBulkEntries r
def uptoBulkEntry {H : Type} : Lit × DataW H → Nat
  | (.string bytes, d) => bytes.length + uptoBulk d + 1
  | (_, d) => uptoBulk d + 1
 end
def uptoSmall : (H : Type) → List (DataW H) → Bool := fun _ ds => decide (uptoBulkAll ds ≤ 1048576)
def OpenSpec.upto (s : _root_.Go.ChangeSpec) : _root_.Go.OpenSpec := { _root_.Go.OpenSpec.ofChange s with cond := some uptoSmall }

/-- 'laws.FnCubes', WHERE WHAT IT READS IS OF BULK AT MOST 1048576: true; the input reads as it did. -/
def fnCubesUptoRow : OpenClaim := { program := "ytnmpigedhpdenab", sum := "96252a332dc0dd8dbef7952bb6e8bbb097fc956d4767556ea4c7f8513554444c", func := "loop.example/g00908/laws.FnCubes", spec := "fnCubes", unfollowed := true, recurses := true, apart := false, narrowed := true }
def FnCubesUptoSaid : Prop := fnCubesUptoRow.holds Try.pinned (OpenSpec.upto fnCubesSpec)

/-- 'laws.FnSlices', WHERE WHAT IT READS IS OF BULK AT MOST 1048576: true; the input reads as it did. -/
def fnSlicesUptoRow : OpenClaim := { program := "ytnmpigedhpdenab", sum := "96252a332dc0dd8dbef7952bb6e8bbb097fc956d4767556ea4c7f8513554444c", func := "loop.example/g00908/laws.FnSlices", spec := "fnSlices", unfollowed := true, recurses := true, apart := false, narrowed := true }
def FnSlicesUptoSaid : Prop := fnSlicesUptoRow.holds Try.pinned (OpenSpec.upto fnSlicesSpec)

/-- 'laws.FnExactGroupSchema', WHERE WHAT IT READS IS OF BULK AT MOST 1048576: true; the input reads as it did. -/
def fnExactGroupSchemaUptoRow : OpenClaim := { program := "ytnmpigedhpdenab", sum := "96252a332dc0dd8dbef7952bb6e8bbb097fc956d4767556ea4c7f8513554444c", func := "loop.example/g00908/laws.FnExactGroupSchema", spec := "fnExactGroupSchema", apart := false, narrowed := true }
def FnExactGroupSchemaUptoSaid : Prop := fnExactGroupSchemaUptoRow.holds Try.pinned (OpenSpec.upto fnExactGroupSchemaSpec)

/-- 'laws.FnExactGroupValues', WHERE WHAT IT READS IS OF BULK AT MOST 1048576: true; the input reads as it did. -/
def fnExactGroupValuesUptoRow : OpenClaim := { program := "ytnmpigedhpdenab", sum := "96252a332dc0dd8dbef7952bb6e8bbb097fc956d4767556ea4c7f8513554444c", func := "loop.example/g00908/laws.FnExactGroupValues", spec := "fnExactGroupValues", apart := false, narrowed := true }
def FnExactGroupValuesUptoSaid : Prop := fnExactGroupValuesUptoRow.holds Try.pinned (OpenSpec.upto fnExactGroupValuesSpec)

/-- 'laws.FnExactGroupData', WHERE WHAT IT READS IS OF BULK AT MOST 1048576: true; the input reads as it did. -/
def fnExactGroupDataUptoRow : OpenClaim := { program := "ytnmpigedhpdenab", sum := "96252a332dc0dd8dbef7952bb6e8bbb097fc956d4767556ea4c7f8513554444c", func := "loop.example/g00908/laws.FnExactGroupData", spec := "fnExactGroupData", apart := false, narrowed := true }
def FnExactGroupDataUptoSaid : Prop := fnExactGroupDataUptoRow.holds Try.pinned (OpenSpec.upto fnExactGroupDataSpec)

/-- 'laws.FnExactAddCells', WHERE WHAT IT READS IS OF BULK AT MOST 1048576: true; the input reads as it did. -/
def fnExactAddCellsUptoRow : OpenClaim := { program := "ytnmpigedhpdenab", sum := "96252a332dc0dd8dbef7952bb6e8bbb097fc956d4767556ea4c7f8513554444c", func := "loop.example/g00908/laws.FnExactAddCells", spec := "fnExactAddCells", unfollowed := true, recurses := true, apart := false, narrowed := true }
def FnExactAddCellsUptoSaid : Prop := fnExactAddCellsUptoRow.holds Try.pinned (OpenSpec.upto fnExactAddCellsSpec)

/-- 'laws.FnExactCanComplete', WHERE WHAT IT READS IS OF BULK AT MOST 1048576: true; the input reads as it did. -/
def fnExactCanCompleteUptoRow : OpenClaim := { program := "ytnmpigedhpdenab", sum := "96252a332dc0dd8dbef7952bb6e8bbb097fc956d4767556ea4c7f8513554444c", func := "loop.example/g00908/laws.FnExactCanComplete", spec := "fnExactCanComplete", unfollowed := true, recurses := true, apart := false, narrowed := true }
def FnExactCanCompleteUptoSaid : Prop := fnExactCanCompleteUptoRow.holds Try.pinned (OpenSpec.upto fnExactCanCompleteSpec)

/-- 'laws.FnExactCompletionOf', WHERE WHAT IT READS IS OF BULK AT MOST 1048576: true; the input reads as it did. -/
def fnExactCompletionOfUptoRow : OpenClaim := { program := "ytnmpigedhpdenab", sum := "96252a332dc0dd8dbef7952bb6e8bbb097fc956d4767556ea4c7f8513554444c", func := "loop.example/g00908/laws.FnExactCompletionOf", spec := "fnExactCompletionOf", unfollowed := true, recurses := true, apart := false, narrowed := true }
def FnExactCompletionOfUptoSaid : Prop := fnExactCompletionOfUptoRow.holds Try.pinned (OpenSpec.upto fnExactCompletionOfSpec)

/-- 'laws.FnExactEditsOnly', WHERE WHAT IT READS IS OF BULK AT MOST 1048576: true; the input reads as it did. -/
def fnExactEditsOnlyUptoRow : OpenClaim := { program := "ytnmpigedhpdenab", sum := "96252a332dc0dd8dbef7952bb6e8bbb097fc956d4767556ea4c7f8513554444c", func := "loop.example/g00908/laws.FnExactEditsOnly", spec := "fnExactEditsOnly", unfollowed := true, recurses := true, apart := false, narrowed := true }
def FnExactEditsOnlyUptoSaid : Prop := fnExactEditsOnlyUptoRow.holds Try.pinned (OpenSpec.upto fnExactEditsOnlySpec)

/-- 'laws.FnExactChangeCost', WHERE WHAT IT READS IS OF BULK AT MOST 1048576: true; the input reads as it did. -/
def fnExactChangeCostUptoRow : OpenClaim := { program := "ytnmpigedhpdenab", sum := "96252a332dc0dd8dbef7952bb6e8bbb097fc956d4767556ea4c7f8513554444c", func := "loop.example/g00908/laws.FnExactChangeCost", spec := "fnExactChangeCost", apart := false, narrowed := true }
def FnExactChangeCostUptoSaid : Prop := fnExactChangeCostUptoRow.holds Try.pinned (OpenSpec.upto fnExactChangeCostSpec)

/-- 'laws.FnExactNearestDonor', WHERE WHAT IT READS IS OF BULK AT MOST 1048576: true; the input reads as it did. -/
def fnExactNearestDonorUptoRow : OpenClaim := { program := "ytnmpigedhpdenab", sum := "96252a332dc0dd8dbef7952bb6e8bbb097fc956d4767556ea4c7f8513554444c", func := "loop.example/g00908/laws.FnExactNearestDonor", spec := "fnExactNearestDonor", apart := false, narrowed := true }
def FnExactNearestDonorUptoSaid : Prop := fnExactNearestDonorUptoRow.holds Try.pinned (OpenSpec.upto fnExactNearestDonorSpec)

end Rows
end Go.Proofs.Ytnmpigedhpdenab
