/-
  No cell of these rows narrows 'for every input' (looked for: loops, veiled, ifaces, maps, wideKeys, modest, calm, conditions, laid).
  DERIVED. THE GIVEN ROWS OF THIS SEAT. 10 by the template 'for every input the law returns true; each argument reads behind the call as it read before'; 0 by the template 'total and deterministic' (their statements: YtgkaalonmkcclaaTotals.lean).
  GIVEN WITH THE SEED: the statements are not yours to turn. If you find one false, say at which input.
  Laid BY PROGRAM, IN A SANDBOX (cutbox-rows.mjs): the forced cells as the released guide's own fill.sh prints them over the translation f3bec61b635c8c8e… (all of the seat's roots in one cut). By AI agents, Wed Nov 11 2026. No macro, syntax, notation, axiom, sorry.
-/
import Derived.Test.YtgkaalonmkcclaaChecked
import GoSem.Claim
import GoSem.ClaimJoined
import GoSem.ClaimMapViews
import Derived.JoinedTies
import Derived.KernelRfl
namespace Go.Proofs.Ytgkaalonmkcclaa
/- THE CELL 'sum', in the pinned program and in every row, IS THE sha256 OF THE DUMP (.gsa) THAT YtgkaalonmkcclaaProg.lean LOADS. Nothing in Lean hashes anything: it is a label: what it is worth is what the hold of that sum in a sandbox is worth. -/
noncomputable def Try.pinned : Pinned := { name := "ytgkaalonmkcclaa", sum := "f3bec61b635c8c8e11018d6f793e8880e1c40666b0b6d41f8f67267b9d42caf6", checked := Try.checked }
namespace Rows
def none {H : Type} : Left H := { results := [], args := [] }

/-- 'laws.FnExactIsTable': WHATEVER THE INPUT: true; the input reads as it did. -/
def fnExactIsTableSpec : ChangeSpec := { name := "fnExactIsTable", fn := fun _ => fun
  | [d1, d2, d3] => { results := [.lit (.bool true)], args := [d1, d2, d3] }
  | _ => none }
def fnExactIsTableRow : OpenClaim := { program := "ytgkaalonmkcclaa", sum := "f3bec61b635c8c8e11018d6f793e8880e1c40666b0b6d41f8f67267b9d42caf6", func := "loop.example/g00908/laws.FnExactIsTable", spec := "fnExactIsTable", unfollowed := true, recurses := true, apart := false }
def FnExactIsTableSaid : Prop := fnExactIsTableRow.holds Try.pinned (OpenSpec.ofChange fnExactIsTableSpec)

/-- ITS FALSE NEIGHBOUR: 'it returns false'. Refute it at one input. -/
def fnExactIsTableWrong : ChangeSpec := { name := "fnExactIsTable", fn := fun _ => fun
  | [d1, d2, d3] => { results := [.lit (.bool false)], args := [d1, d2, d3] }
  | _ => none }
def FnExactIsTableWrongFalsely : Prop := fnExactIsTableRow.holds Try.pinned (OpenSpec.ofChange fnExactIsTableWrong)

/-- 'laws.FnExactCellCount': WHATEVER THE INPUT: true; the input reads as it did. -/
def fnExactCellCountSpec : ChangeSpec := { name := "fnExactCellCount", fn := fun _ => fun
  | [d1, d2, d3] => { results := [.lit (.bool true)], args := [d1, d2, d3] }
  | _ => none }
def fnExactCellCountRow : OpenClaim := { program := "ytgkaalonmkcclaa", sum := "f3bec61b635c8c8e11018d6f793e8880e1c40666b0b6d41f8f67267b9d42caf6", func := "loop.example/g00908/laws.FnExactCellCount", spec := "fnExactCellCount", unfollowed := true, recurses := true, apart := false }
def FnExactCellCountSaid : Prop := fnExactCellCountRow.holds Try.pinned (OpenSpec.ofChange fnExactCellCountSpec)

/-- ITS FALSE NEIGHBOUR: 'it returns false'. Refute it at one input. -/
def fnExactCellCountWrong : ChangeSpec := { name := "fnExactCellCount", fn := fun _ => fun
  | [d1, d2, d3] => { results := [.lit (.bool false)], args := [d1, d2, d3] }
  | _ => none }
def FnExactCellCountWrongFalsely : Prop := fnExactCellCountRow.holds Try.pinned (OpenSpec.ofChange fnExactCellCountWrong)

/-- 'laws.FnExactCellIndex': WHATEVER THE INPUT: true; the input reads as it did. -/
def fnExactCellIndexSpec : ChangeSpec := { name := "fnExactCellIndex", fn := fun _ => fun
  | [d1, d2, d3, d4, d5] => { results := [.lit (.bool true)], args := [d1, d2, d3, d4, d5] }
  | _ => none }
def fnExactCellIndexRow : OpenClaim := { program := "ytgkaalonmkcclaa", sum := "f3bec61b635c8c8e11018d6f793e8880e1c40666b0b6d41f8f67267b9d42caf6", func := "loop.example/g00908/laws.FnExactCellIndex", spec := "fnExactCellIndex", unfollowed := true, recurses := true, apart := false }
def FnExactCellIndexSaid : Prop := fnExactCellIndexRow.holds Try.pinned (OpenSpec.ofChange fnExactCellIndexSpec)

/-- ITS FALSE NEIGHBOUR: 'it returns false'. Refute it at one input. -/
def fnExactCellIndexWrong : ChangeSpec := { name := "fnExactCellIndex", fn := fun _ => fun
  | [d1, d2, d3, d4, d5] => { results := [.lit (.bool false)], args := [d1, d2, d3, d4, d5] }
  | _ => none }
def FnExactCellIndexWrongFalsely : Prop := fnExactCellIndexRow.holds Try.pinned (OpenSpec.ofChange fnExactCellIndexWrong)

/-- 'laws.FnExactCellAt': WHATEVER THE INPUT: true; the input reads as it did. -/
def fnExactCellAtSpec : ChangeSpec := { name := "fnExactCellAt", fn := fun _ => fun
  | [d1, d2, d3, d4] => { results := [.lit (.bool true)], args := [d1, d2, d3, d4] }
  | _ => none }
def fnExactCellAtRow : OpenClaim := { program := "ytgkaalonmkcclaa", sum := "f3bec61b635c8c8e11018d6f793e8880e1c40666b0b6d41f8f67267b9d42caf6", func := "loop.example/g00908/laws.FnExactCellAt", spec := "fnExactCellAt", unfollowed := true, recurses := true, apart := false }
def FnExactCellAtSaid : Prop := fnExactCellAtRow.holds Try.pinned (OpenSpec.ofChange fnExactCellAtSpec)

/-- ITS FALSE NEIGHBOUR: 'it returns false'. Refute it at one input. -/
def fnExactCellAtWrong : ChangeSpec := { name := "fnExactCellAt", fn := fun _ => fun
  | [d1, d2, d3, d4] => { results := [.lit (.bool false)], args := [d1, d2, d3, d4] }
  | _ => none }
def FnExactCellAtWrongFalsely : Prop := fnExactCellAtRow.holds Try.pinned (OpenSpec.ofChange fnExactCellAtWrong)

/-- 'laws.FnExactTableOf': WHATEVER THE INPUT: true; the input reads as it did. -/
def fnExactTableOfSpec : ChangeSpec := { name := "fnExactTableOf", fn := fun _ => fun
  | [d1, d2, d3, d4] => { results := [.lit (.bool true)], args := [d1, d2, d3, d4] }
  | _ => none }
def fnExactTableOfRow : OpenClaim := { program := "ytgkaalonmkcclaa", sum := "f3bec61b635c8c8e11018d6f793e8880e1c40666b0b6d41f8f67267b9d42caf6", func := "loop.example/g00908/laws.FnExactTableOf", spec := "fnExactTableOf", unfollowed := true, recurses := true, apart := false }
def FnExactTableOfSaid : Prop := fnExactTableOfRow.holds Try.pinned (OpenSpec.ofChange fnExactTableOfSpec)

/-- ITS FALSE NEIGHBOUR: 'it returns false'. Refute it at one input. -/
def fnExactTableOfWrong : ChangeSpec := { name := "fnExactTableOf", fn := fun _ => fun
  | [d1, d2, d3, d4] => { results := [.lit (.bool false)], args := [d1, d2, d3, d4] }
  | _ => none }
def FnExactTableOfWrongFalsely : Prop := fnExactTableOfRow.holds Try.pinned (OpenSpec.ofChange fnExactTableOfWrong)

/-- 'laws.FnExactRecordsIn': WHATEVER THE INPUT: true; the input reads as it did. -/
def fnExactRecordsInSpec : ChangeSpec := { name := "fnExactRecordsIn", fn := fun _ => fun
  | [d1, d2, d3, d4, d5] => { results := [.lit (.bool true)], args := [d1, d2, d3, d4, d5] }
  | _ => none }
def fnExactRecordsInRow : OpenClaim := { program := "ytgkaalonmkcclaa", sum := "f3bec61b635c8c8e11018d6f793e8880e1c40666b0b6d41f8f67267b9d42caf6", func := "loop.example/g00908/laws.FnExactRecordsIn", spec := "fnExactRecordsIn", unfollowed := true, recurses := true, apart := false }
def FnExactRecordsInSaid : Prop := fnExactRecordsInRow.holds Try.pinned (OpenSpec.ofChange fnExactRecordsInSpec)

/-- ITS FALSE NEIGHBOUR: 'it returns false'. Refute it at one input. -/
def fnExactRecordsInWrong : ChangeSpec := { name := "fnExactRecordsIn", fn := fun _ => fun
  | [d1, d2, d3, d4, d5] => { results := [.lit (.bool false)], args := [d1, d2, d3, d4, d5] }
  | _ => none }
def FnExactRecordsInWrongFalsely : Prop := fnExactRecordsInRow.holds Try.pinned (OpenSpec.ofChange fnExactRecordsInWrong)

/-- 'laws.FnExactContributionOf': WHATEVER THE INPUT: true; the input reads as it did. -/
def fnExactContributionOfSpec : ChangeSpec := { name := "fnExactContributionOf", fn := fun _ => fun
  | [d1, d2, d3, d4] => { results := [.lit (.bool true)], args := [d1, d2, d3, d4] }
  | _ => none }
def fnExactContributionOfRow : OpenClaim := { program := "ytgkaalonmkcclaa", sum := "f3bec61b635c8c8e11018d6f793e8880e1c40666b0b6d41f8f67267b9d42caf6", func := "loop.example/g00908/laws.FnExactContributionOf", spec := "fnExactContributionOf", unfollowed := true, recurses := true, apart := false }
def FnExactContributionOfSaid : Prop := fnExactContributionOfRow.holds Try.pinned (OpenSpec.ofChange fnExactContributionOfSpec)

/-- ITS FALSE NEIGHBOUR: 'it returns false'. Refute it at one input. -/
def fnExactContributionOfWrong : ChangeSpec := { name := "fnExactContributionOf", fn := fun _ => fun
  | [d1, d2, d3, d4] => { results := [.lit (.bool false)], args := [d1, d2, d3, d4] }
  | _ => none }
def FnExactContributionOfWrongFalsely : Prop := fnExactContributionOfRow.holds Try.pinned (OpenSpec.ofChange fnExactContributionOfWrong)

/-- 'laws.FnExactSensitivityOf': WHATEVER THE INPUT: true; the input reads as it did. -/
def fnExactSensitivityOfSpec : ChangeSpec := { name := "fnExactSensitivityOf", fn := fun _ => fun
  | [d1, d2, d3] => { results := [.lit (.bool true)], args := [d1, d2, d3] }
  | _ => none }
def fnExactSensitivityOfRow : OpenClaim := { program := "ytgkaalonmkcclaa", sum := "f3bec61b635c8c8e11018d6f793e8880e1c40666b0b6d41f8f67267b9d42caf6", func := "loop.example/g00908/laws.FnExactSensitivityOf", spec := "fnExactSensitivityOf", unfollowed := true, recurses := true, apart := false }
def FnExactSensitivityOfSaid : Prop := fnExactSensitivityOfRow.holds Try.pinned (OpenSpec.ofChange fnExactSensitivityOfSpec)

/-- ITS FALSE NEIGHBOUR: 'it returns false'. Refute it at one input. -/
def fnExactSensitivityOfWrong : ChangeSpec := { name := "fnExactSensitivityOf", fn := fun _ => fun
  | [d1, d2, d3] => { results := [.lit (.bool false)], args := [d1, d2, d3] }
  | _ => none }
def FnExactSensitivityOfWrongFalsely : Prop := fnExactSensitivityOfRow.holds Try.pinned (OpenSpec.ofChange fnExactSensitivityOfWrong)

/-- 'laws.FnExactNormalTable': WHATEVER THE INPUT: true; the input reads as it did. -/
def fnExactNormalTableSpec : ChangeSpec := { name := "fnExactNormalTable", fn := fun _ => fun
  | [d1, d2, d3] => { results := [.lit (.bool true)], args := [d1, d2, d3] }
  | _ => none }
def fnExactNormalTableRow : OpenClaim := { program := "ytgkaalonmkcclaa", sum := "f3bec61b635c8c8e11018d6f793e8880e1c40666b0b6d41f8f67267b9d42caf6", func := "loop.example/g00908/laws.FnExactNormalTable", spec := "fnExactNormalTable", unfollowed := true, recurses := true, apart := false }
def FnExactNormalTableSaid : Prop := fnExactNormalTableRow.holds Try.pinned (OpenSpec.ofChange fnExactNormalTableSpec)

/-- ITS FALSE NEIGHBOUR: 'it returns false'. Refute it at one input. -/
def fnExactNormalTableWrong : ChangeSpec := { name := "fnExactNormalTable", fn := fun _ => fun
  | [d1, d2, d3] => { results := [.lit (.bool false)], args := [d1, d2, d3] }
  | _ => none }
def FnExactNormalTableWrongFalsely : Prop := fnExactNormalTableRow.holds Try.pinned (OpenSpec.ofChange fnExactNormalTableWrong)

/-- 'laws.FnExactSameMeaning': WHATEVER THE INPUT: true; the input reads as it did. -/
def fnExactSameMeaningSpec : ChangeSpec := { name := "fnExactSameMeaning", fn := fun _ => fun
  | [d1, d2, d3, d4] => { results := [.lit (.bool true)], args := [d1, d2, d3, d4] }
  | _ => none }
def fnExactSameMeaningRow : OpenClaim := { program := "ytgkaalonmkcclaa", sum := "f3bec61b635c8c8e11018d6f793e8880e1c40666b0b6d41f8f67267b9d42caf6", func := "loop.example/g00908/laws.FnExactSameMeaning", spec := "fnExactSameMeaning", unfollowed := true, recurses := true, apart := false }
def FnExactSameMeaningSaid : Prop := fnExactSameMeaningRow.holds Try.pinned (OpenSpec.ofChange fnExactSameMeaningSpec)

/-- ITS FALSE NEIGHBOUR: 'it returns false'. Refute it at one input. -/
def fnExactSameMeaningWrong : ChangeSpec := { name := "fnExactSameMeaning", fn := fun _ => fun
  | [d1, d2, d3, d4] => { results := [.lit (.bool false)], args := [d1, d2, d3, d4] }
  | _ => none }
def FnExactSameMeaningWrongFalsely : Prop := fnExactSameMeaningRow.holds Try.pinned (OpenSpec.ofChange fnExactSameMeaningWrong)

/- THE SECOND FORM. 'bulk': how many values and letters a reading holds, each counted each time it is reached (what is shared counts as often as it is met; a slice's spare places count too). A statement '..UptoSaid' is the law's where the arguments, and the package variables that the reading takes, are together of bulk at most 1048576: NARROWER than '..Said'. Prove '..Said' where nothing that the law and all that it calls make is longer than what came in: it says more and counts as full. Else prove '..UptoSaid'. A law counts once. -/
mutual
def uptoBulk {H : Type} : DataW H → Nat
  | .lit (.string bytes) => bytes.length + 1
  | .lit _ => 1
  | .nil => 1
  | .ptr d => uptoBulk d + 1
  | .slice elems spare => uptoBulkAll elems + uptoBulkAll spare + 1
  | .agg parts => uptoBulkAll parts + 1
  | .iface _ d => uptoBulk d + 1
  | .map entries => uptoBulkEntries entries + 1
  | .held _ => 1
def uptoBulkAll {H : Type} : List (DataW H) → Nat
  | [] => 0
  | d :: r => uptoBulk d + uptoBulkAll r
def uptoBulkEntries {H : Type} : List (Lit × DataW H) → Nat
  | [] => 0
  | x :: r => uptoBulkEntry x + uptoBulkEntries r
def uptoBulkEntry {H : Type} : Lit × DataW H → Nat
  | (.string bytes, d) => bytes.length + uptoBulk d + 1
  | (_, d) => uptoBulk d + 1
 end
def uptoSmall : (H : Type) → List (DataW H) → Bool := fun _ ds => decide (uptoBulkAll ds ≤ 1048576)
def OpenSpec.upto (s : _root_.Go.ChangeSpec) : _root_.Go.OpenSpec := { _root_.Go.OpenSpec.ofChange s with cond := some uptoSmall }

/-- 'laws.FnExactIsTable', WHERE WHAT IT READS IS OF BULK AT MOST 1048576: true; the input reads as it did. -/
def fnExactIsTableUptoRow : OpenClaim := { program := "ytgkaalonmkcclaa", sum := "f3bec61b635c8c8e11018d6f793e8880e1c40666b0b6d41f8f67267b9d42caf6", func := "loop.example/g00908/laws.FnExactIsTable", spec := "fnExactIsTable", unfollowed := true, recurses := true, apart := false, narrowed := true }
def FnExactIsTableUptoSaid : Prop := fnExactIsTableUptoRow.holds Try.pinned (OpenSpec.upto fnExactIsTableSpec)

/-- 'laws.FnExactCellCount', WHERE WHAT IT READS IS OF BULK AT MOST 1048576: true; the input reads as it did. -/
def fnExactCellCountUptoRow : OpenClaim := { program := "ytgkaalonmkcclaa", sum := "f3bec61b635c8c8e11018d6f793e8880e1c40666b0b6d41f8f67267b9d42caf6", func := "loop.example/g00908/laws.FnExactCellCount", spec := "fnExactCellCount", unfollowed := true, recurses := true, apart := false, narrowed := true }
def FnExactCellCountUptoSaid : Prop := fnExactCellCountUptoRow.holds Try.pinned (OpenSpec.upto fnExactCellCountSpec)

/-- 'laws.FnExactCellIndex', WHERE WHAT IT READS IS OF BULK AT MOST 1048576: true; the input reads as it did. -/
def fnExactCellIndexUptoRow : OpenClaim := { program := "ytgkaalonmkcclaa", sum := "f3bec61b635c8c8e11018d6f793e8880e1c40666b0b6d41f8f67267b9d42caf6", func := "loop.example/g00908/laws.FnExactCellIndex", spec := "fnExactCellIndex", unfollowed := true, recurses := true, apart := false, narrowed := true }
def FnExactCellIndexUptoSaid : Prop := fnExactCellIndexUptoRow.holds Try.pinned (OpenSpec.upto fnExactCellIndexSpec)

/-- 'laws.FnExactCellAt', WHERE WHAT IT READS IS OF BULK AT MOST 1048576: true; the input reads as it did. -/
def fnExactCellAtUptoRow : OpenClaim := { program := "ytgkaalonmkcclaa", sum := "f3bec61b635c8c8e11018d6f793e8880e1c40666b0b6d41f8f67267b9d42caf6", func := "loop.example/g00908/laws.FnExactCellAt", spec := "fnExactCellAt", unfollowed := true, recurses := true, apart := false, narrowed := true }
def FnExactCellAtUptoSaid : Prop := fnExactCellAtUptoRow.holds Try.pinned (OpenSpec.upto fnExactCellAtSpec)

/-- 'laws.FnExactTableOf', WHERE WHAT IT READS IS OF BULK AT MOST 1048576: true; the input reads as it did. -/
def fnExactTableOfUptoRow : OpenClaim := { program := "ytgkaalonmkcclaa", sum := "f3bec61b635c8c8e11018d6f793e8880e1c40666b0b6d41f8f67267b9d42caf6", func := "loop.example/g00908/laws.FnExactTableOf", spec := "fnExactTableOf", unfollowed := true, recurses := true, apart := false, narrowed := true }
def FnExactTableOfUptoSaid : Prop := fnExactTableOfUptoRow.holds Try.pinned (OpenSpec.upto fnExactTableOfSpec)

/-- 'laws.FnExactRecordsIn', WHERE WHAT IT READS IS OF BULK AT MOST 1048576: true; the input reads as it did. -/
def fnExactRecordsInUptoRow : OpenClaim := { program := "ytgkaalonmkcclaa", sum := "f3bec61b635c8c8e11018d6f793e8880e1c40666b0b6d41f8f67267b9d42caf6", func := "loop.example/g00908/laws.FnExactRecordsIn", spec := "fnExactRecordsIn", unfollowed := true, recurses := true, apart := false, narrowed := true }
def FnExactRecordsInUptoSaid : Prop := fnExactRecordsInUptoRow.holds Try.pinned (OpenSpec.upto fnExactRecordsInSpec)

/-- 'laws.FnExactContributionOf', WHERE WHAT IT READS IS OF BULK AT MOST 1048576: true; the input reads as it did. -/
def fnExactContributionOfUptoRow : OpenClaim := { program := "ytgkaalonmkcclaa", sum := "f3bec61b635c8c8e11018d6f793e8880e1c40666b0b6d41f8f67267b9d42caf6", func := "loop.example/g00908/laws.FnExactContributionOf", spec := "fnExactContributionOf", unfollowed := true, recurses := true, apart := false, narrowed := true }
def FnExactContributionOfUptoSaid : Prop := fnExactContributionOfUptoRow.holds Try.pinned (OpenSpec.upto fnExactContributionOfSpec)

/-- 'laws.FnExactSensitivityOf', WHERE WHAT IT READS IS OF BULK AT MOST 1048576: true; the input reads as it did. -/
def fnExactSensitivityOfUptoRow : OpenClaim := { program := "ytgkaalonmkcclaa", sum := "f3bec61b635c8c8e11018d6f793e8880e1c40666b0b6d41f8f67267b9d42caf6", func := "loop.example/g00908/laws.FnExactSensitivityOf", spec := "fnExactSensitivityOf", unfollowed := true, recurses := true, apart := false, narrowed := true }
def FnExactSensitivityOfUptoSaid : Prop := fnExactSensitivityOfUptoRow.holds Try.pinned (OpenSpec.upto fnExactSensitivityOfSpec)

/-- 'laws.FnExactNormalTable', WHERE WHAT IT READS IS OF BULK AT MOST 1048576: true; the input reads as it did. -/
def fnExactNormalTableUptoRow : OpenClaim := { program := "ytgkaalonmkcclaa", sum := "f3bec61b635c8c8e11018d6f793e8880e1c40666b0b6d41f8f67267b9d42caf6", func := "loop.example/g00908/laws.FnExactNormalTable", spec := "fnExactNormalTable", unfollowed := true, recurses := true, apart := false, narrowed := true }
def FnExactNormalTableUptoSaid : Prop := fnExactNormalTableUptoRow.holds Try.pinned (OpenSpec.upto fnExactNormalTableSpec)

/-- 'laws.FnExactSameMeaning', WHERE WHAT IT READS IS OF BULK AT MOST 1048576: true; the input reads as it did. -/
def fnExactSameMeaningUptoRow : OpenClaim := { program := "ytgkaalonmkcclaa", sum := "f3bec61b635c8c8e11018d6f793e8880e1c40666b0b6d41f8f67267b9d42caf6", func := "loop.example/g00908/laws.FnExactSameMeaning", spec := "fnExactSameMeaning", unfollowed := true, recurses := true, apart := false, narrowed := true }
def FnExactSameMeaningUptoSaid : Prop := fnExactSameMeaningUptoRow.holds Try.pinned (OpenSpec.upto fnExactSameMeaningSpec)

end Rows
end Go.Proofs.Ytgkaalonmkcclaa
