/-
  No cell of these rows narrows 'for every input' (looked for: loops, veiled, ifaces, maps, wideKeys, modest, calm, conditions, laid).
  DERIVED. THE GIVEN ROWS OF THIS SEAT. 12 by the template 'for every input the law returns true; each argument reads behind the call as it read before'; 0 by the template 'total and deterministic' (their statements: YtpdilekfagfbiaaTotals.lean).
  GIVEN WITH THE SEED: the statements are not yours to turn. If you find one false, say at which input.
  Laid BY PROGRAM, IN A SANDBOX (cutbox-rows.mjs): the forced cells as the released guide's own fill.sh prints them over the translation 91b0cde6a5984fd7… (all of the seat's roots in one cut). By AI agents, Wed Nov 11 2026. No macro, syntax, notation, axiom, sorry.
-/
import Derived.Test.YtpdilekfagfbiaaChecked
import GoSem.Claim
import GoSem.ClaimJoined
import GoSem.ClaimMapViews
import Derived.JoinedTies
import Derived.KernelRfl
namespace Go.Proofs.Ytpdilekfagfbiaa
/- THE CELL 'sum', in the pinned program and in every row, IS THE sha256 OF THE DUMP (.gsa) THAT YtpdilekfagfbiaaProg.lean LOADS. Nothing in Lean hashes anything: it is a label: what it is worth is what the hold of that sum in a sandbox is worth. -/
noncomputable def Try.pinned : Pinned := { name := "ytpdilekfagfbiaa", sum := "91b0cde6a5984fd7b81444884f11623de1adb534f0f091dffc90be40ccbd2901", checked := Try.checked }
namespace Rows
def none {H : Type} : Left H := { results := [], args := [] }

/-- 'laws.FnExactMaximalEdits': WHATEVER THE INPUT: true; the input reads as it did. -/
def fnExactMaximalEditsSpec : ChangeSpec := { name := "fnExactMaximalEdits", fn := fun _ => fun
  | [d1, d2] => { results := [.lit (.bool true)], args := [d1, d2] }
  | _ => none }
def fnExactMaximalEditsRow : OpenClaim := { program := "ytpdilekfagfbiaa", sum := "91b0cde6a5984fd7b81444884f11623de1adb534f0f091dffc90be40ccbd2901", func := "loop.example/g00908/laws.FnExactMaximalEdits", spec := "fnExactMaximalEdits", unfollowed := true, recurses := true, apart := false }
def FnExactMaximalEditsSaid : Prop := fnExactMaximalEditsRow.holds Try.pinned (OpenSpec.ofChange fnExactMaximalEditsSpec)

/-- ITS FALSE NEIGHBOUR: 'it returns false'. Refute it at one input. -/
def fnExactMaximalEditsWrong : ChangeSpec := { name := "fnExactMaximalEdits", fn := fun _ => fun
  | [d1, d2] => { results := [.lit (.bool false)], args := [d1, d2] }
  | _ => none }
def FnExactMaximalEditsWrongFalsely : Prop := fnExactMaximalEditsRow.holds Try.pinned (OpenSpec.ofChange fnExactMaximalEditsWrong)

/-- 'laws.FnExactEliminateVariable': WHATEVER THE INPUT: true; the input reads as it did. -/
def fnExactEliminateVariableSpec : ChangeSpec := { name := "fnExactEliminateVariable", fn := fun _ => fun
  | [d1, d2, d3] => { results := [.lit (.bool true)], args := [d1, d2, d3] }
  | _ => none }
def fnExactEliminateVariableRow : OpenClaim := { program := "ytpdilekfagfbiaa", sum := "91b0cde6a5984fd7b81444884f11623de1adb534f0f091dffc90be40ccbd2901", func := "loop.example/g00908/laws.FnExactEliminateVariable", spec := "fnExactEliminateVariable", unfollowed := true, recurses := true, apart := false }
def FnExactEliminateVariableSaid : Prop := fnExactEliminateVariableRow.holds Try.pinned (OpenSpec.ofChange fnExactEliminateVariableSpec)

/-- ITS FALSE NEIGHBOUR: 'it returns false'. Refute it at one input. -/
def fnExactEliminateVariableWrong : ChangeSpec := { name := "fnExactEliminateVariable", fn := fun _ => fun
  | [d1, d2, d3] => { results := [.lit (.bool false)], args := [d1, d2, d3] }
  | _ => none }
def FnExactEliminateVariableWrongFalsely : Prop := fnExactEliminateVariableRow.holds Try.pinned (OpenSpec.ofChange fnExactEliminateVariableWrong)

/-- 'laws.FnExactEditsOnly': WHATEVER THE INPUT: true; the input reads as it did. -/
def fnExactEditsOnlySpec : ChangeSpec := { name := "fnExactEditsOnly", fn := fun _ => fun
  | [d1, d2, d3] => { results := [.lit (.bool true)], args := [d1, d2, d3] }
  | _ => none }
def fnExactEditsOnlyRow : OpenClaim := { program := "ytpdilekfagfbiaa", sum := "91b0cde6a5984fd7b81444884f11623de1adb534f0f091dffc90be40ccbd2901", func := "loop.example/g00908/laws.FnExactEditsOnly", spec := "fnExactEditsOnly", unfollowed := true, recurses := true, apart := false }
def FnExactEditsOnlySaid : Prop := fnExactEditsOnlyRow.holds Try.pinned (OpenSpec.ofChange fnExactEditsOnlySpec)

/-- ITS FALSE NEIGHBOUR: 'it returns false'. Refute it at one input. -/
def fnExactEditsOnlyWrong : ChangeSpec := { name := "fnExactEditsOnly", fn := fun _ => fun
  | [d1, d2, d3] => { results := [.lit (.bool false)], args := [d1, d2, d3] }
  | _ => none }
def FnExactEditsOnlyWrongFalsely : Prop := fnExactEditsOnlyRow.holds Try.pinned (OpenSpec.ofChange fnExactEditsOnlyWrong)

/-- 'laws.FnExactWithoutContained': WHATEVER THE INPUT: true; the input reads as it did. -/
def fnExactWithoutContainedSpec : ChangeSpec := { name := "fnExactWithoutContained", fn := fun _ => fun
  | [d1, d2] => { results := [.lit (.bool true)], args := [d1, d2] }
  | _ => none }
def fnExactWithoutContainedRow : OpenClaim := { program := "ytpdilekfagfbiaa", sum := "91b0cde6a5984fd7b81444884f11623de1adb534f0f091dffc90be40ccbd2901", func := "loop.example/g00908/laws.FnExactWithoutContained", spec := "fnExactWithoutContained", unfollowed := true, recurses := true, apart := false }
def FnExactWithoutContainedSaid : Prop := fnExactWithoutContainedRow.holds Try.pinned (OpenSpec.ofChange fnExactWithoutContainedSpec)

/-- ITS FALSE NEIGHBOUR: 'it returns false'. Refute it at one input. -/
def fnExactWithoutContainedWrong : ChangeSpec := { name := "fnExactWithoutContained", fn := fun _ => fun
  | [d1, d2] => { results := [.lit (.bool false)], args := [d1, d2] }
  | _ => none }
def FnExactWithoutContainedWrongFalsely : Prop := fnExactWithoutContainedRow.holds Try.pinned (OpenSpec.ofChange fnExactWithoutContainedWrong)

/-- 'laws.FnExactIsCover': WHATEVER THE INPUT: true; the input reads as it did. -/
def fnExactIsCoverSpec : ChangeSpec := { name := "fnExactIsCover", fn := fun _ => fun
  | [d1, d2, d3, d4] => { results := [.lit (.bool true)], args := [d1, d2, d3, d4] }
  | _ => none }
def fnExactIsCoverRow : OpenClaim := { program := "ytpdilekfagfbiaa", sum := "91b0cde6a5984fd7b81444884f11623de1adb534f0f091dffc90be40ccbd2901", func := "loop.example/g00908/laws.FnExactIsCover", spec := "fnExactIsCover", unfollowed := true, recurses := true, apart := false }
def FnExactIsCoverSaid : Prop := fnExactIsCoverRow.holds Try.pinned (OpenSpec.ofChange fnExactIsCoverSpec)

/-- ITS FALSE NEIGHBOUR: 'it returns false'. Refute it at one input. -/
def fnExactIsCoverWrong : ChangeSpec := { name := "fnExactIsCover", fn := fun _ => fun
  | [d1, d2, d3, d4] => { results := [.lit (.bool false)], args := [d1, d2, d3, d4] }
  | _ => none }
def FnExactIsCoverWrongFalsely : Prop := fnExactIsCoverRow.holds Try.pinned (OpenSpec.ofChange fnExactIsCoverWrong)

/-- 'laws.FnExactPackingBound': WHATEVER THE INPUT: true; the input reads as it did. -/
def fnExactPackingBoundSpec : ChangeSpec := { name := "fnExactPackingBound", fn := fun _ => fun
  | [d1, d2, d3, d4] => { results := [.lit (.bool true)], args := [d1, d2, d3, d4] }
  | _ => none }
def fnExactPackingBoundRow : OpenClaim := { program := "ytpdilekfagfbiaa", sum := "91b0cde6a5984fd7b81444884f11623de1adb534f0f091dffc90be40ccbd2901", func := "loop.example/g00908/laws.FnExactPackingBound", spec := "fnExactPackingBound", unfollowed := true, recurses := true, apart := false }
def FnExactPackingBoundSaid : Prop := fnExactPackingBoundRow.holds Try.pinned (OpenSpec.ofChange fnExactPackingBoundSpec)

/-- ITS FALSE NEIGHBOUR: 'it returns false'. Refute it at one input. -/
def fnExactPackingBoundWrong : ChangeSpec := { name := "fnExactPackingBound", fn := fun _ => fun
  | [d1, d2, d3, d4] => { results := [.lit (.bool false)], args := [d1, d2, d3, d4] }
  | _ => none }
def FnExactPackingBoundWrongFalsely : Prop := fnExactPackingBoundRow.holds Try.pinned (OpenSpec.ofChange fnExactPackingBoundWrong)

/-- 'laws.FnExactChangeCost': WHATEVER THE INPUT: true; the input reads as it did. -/
def fnExactChangeCostSpec : ChangeSpec := { name := "fnExactChangeCost", fn := fun _ => fun
  | [d1, d2, d3, d4] => { results := [.lit (.bool true)], args := [d1, d2, d3, d4] }
  | _ => none }
def fnExactChangeCostRow : OpenClaim := { program := "ytpdilekfagfbiaa", sum := "91b0cde6a5984fd7b81444884f11623de1adb534f0f091dffc90be40ccbd2901", func := "loop.example/g00908/laws.FnExactChangeCost", spec := "fnExactChangeCost", apart := false }
def FnExactChangeCostSaid : Prop := fnExactChangeCostRow.holds Try.pinned (OpenSpec.ofChange fnExactChangeCostSpec)

/-- ITS FALSE NEIGHBOUR: 'it returns false'. Refute it at one input. -/
def fnExactChangeCostWrong : ChangeSpec := { name := "fnExactChangeCost", fn := fun _ => fun
  | [d1, d2, d3, d4] => { results := [.lit (.bool false)], args := [d1, d2, d3, d4] }
  | _ => none }
def FnExactChangeCostWrongFalsely : Prop := fnExactChangeCostRow.holds Try.pinned (OpenSpec.ofChange fnExactChangeCostWrong)

/-- 'laws.FnExactIsMend': WHATEVER THE INPUT: true; the input reads as it did. -/
def fnExactIsMendSpec : ChangeSpec := { name := "fnExactIsMend", fn := fun _ => fun
  | [d1, d2, d3, d4, d5] => { results := [.lit (.bool true)], args := [d1, d2, d3, d4, d5] }
  | _ => none }
def fnExactIsMendRow : OpenClaim := { program := "ytpdilekfagfbiaa", sum := "91b0cde6a5984fd7b81444884f11623de1adb534f0f091dffc90be40ccbd2901", func := "loop.example/g00908/laws.FnExactIsMend", spec := "fnExactIsMend", apart := false }
def FnExactIsMendSaid : Prop := fnExactIsMendRow.holds Try.pinned (OpenSpec.ofChange fnExactIsMendSpec)

/-- ITS FALSE NEIGHBOUR: 'it returns false'. Refute it at one input. -/
def fnExactIsMendWrong : ChangeSpec := { name := "fnExactIsMend", fn := fun _ => fun
  | [d1, d2, d3, d4, d5] => { results := [.lit (.bool false)], args := [d1, d2, d3, d4, d5] }
  | _ => none }
def FnExactIsMendWrongFalsely : Prop := fnExactIsMendRow.holds Try.pinned (OpenSpec.ofChange fnExactIsMendWrong)

/-- 'laws.FnExactFailingRecords': WHATEVER THE INPUT: true; the input reads as it did. -/
def fnExactFailingRecordsSpec : ChangeSpec := { name := "fnExactFailingRecords", fn := fun _ => fun
  | [d1, d2, d3] => { results := [.lit (.bool true)], args := [d1, d2, d3] }
  | _ => none }
def fnExactFailingRecordsRow : OpenClaim := { program := "ytpdilekfagfbiaa", sum := "91b0cde6a5984fd7b81444884f11623de1adb534f0f091dffc90be40ccbd2901", func := "loop.example/g00908/laws.FnExactFailingRecords", spec := "fnExactFailingRecords", apart := false }
def FnExactFailingRecordsSaid : Prop := fnExactFailingRecordsRow.holds Try.pinned (OpenSpec.ofChange fnExactFailingRecordsSpec)

/-- ITS FALSE NEIGHBOUR: 'it returns false'. Refute it at one input. -/
def fnExactFailingRecordsWrong : ChangeSpec := { name := "fnExactFailingRecords", fn := fun _ => fun
  | [d1, d2, d3] => { results := [.lit (.bool false)], args := [d1, d2, d3] }
  | _ => none }
def FnExactFailingRecordsWrongFalsely : Prop := fnExactFailingRecordsRow.holds Try.pinned (OpenSpec.ofChange fnExactFailingRecordsWrong)

/-- 'laws.FnExactNearestDonor': WHATEVER THE INPUT: true; the input reads as it did. -/
def fnExactNearestDonorSpec : ChangeSpec := { name := "fnExactNearestDonor", fn := fun _ => fun
  | [d1, d2, d3, d4, d5] => { results := [.lit (.bool true)], args := [d1, d2, d3, d4, d5] }
  | _ => none }
def fnExactNearestDonorRow : OpenClaim := { program := "ytpdilekfagfbiaa", sum := "91b0cde6a5984fd7b81444884f11623de1adb534f0f091dffc90be40ccbd2901", func := "loop.example/g00908/laws.FnExactNearestDonor", spec := "fnExactNearestDonor", apart := false }
def FnExactNearestDonorSaid : Prop := fnExactNearestDonorRow.holds Try.pinned (OpenSpec.ofChange fnExactNearestDonorSpec)

/-- ITS FALSE NEIGHBOUR: 'it returns false'. Refute it at one input. -/
def fnExactNearestDonorWrong : ChangeSpec := { name := "fnExactNearestDonor", fn := fun _ => fun
  | [d1, d2, d3, d4, d5] => { results := [.lit (.bool false)], args := [d1, d2, d3, d4, d5] }
  | _ => none }
def FnExactNearestDonorWrongFalsely : Prop := fnExactNearestDonorRow.holds Try.pinned (OpenSpec.ofChange fnExactNearestDonorWrong)

/-- 'laws.FnExactFailedEdits': WHATEVER THE INPUT: true; the input reads as it did. -/
def fnExactFailedEditsSpec : ChangeSpec := { name := "fnExactFailedEdits", fn := fun _ => fun
  | [d1, d2, d3] => { results := [.lit (.bool true)], args := [d1, d2, d3] }
  | _ => none }
def fnExactFailedEditsRow : OpenClaim := { program := "ytpdilekfagfbiaa", sum := "91b0cde6a5984fd7b81444884f11623de1adb534f0f091dffc90be40ccbd2901", func := "loop.example/g00908/laws.FnExactFailedEdits", spec := "fnExactFailedEdits", apart := false }
def FnExactFailedEditsSaid : Prop := fnExactFailedEditsRow.holds Try.pinned (OpenSpec.ofChange fnExactFailedEditsSpec)

/-- ITS FALSE NEIGHBOUR: 'it returns false'. Refute it at one input. -/
def fnExactFailedEditsWrong : ChangeSpec := { name := "fnExactFailedEdits", fn := fun _ => fun
  | [d1, d2, d3] => { results := [.lit (.bool false)], args := [d1, d2, d3] }
  | _ => none }
def FnExactFailedEditsWrongFalsely : Prop := fnExactFailedEditsRow.holds Try.pinned (OpenSpec.ofChange fnExactFailedEditsWrong)

/-- 'laws.FnExactInvolvedIn': WHATEVER THE INPUT: true; the input reads as it did. -/
def fnExactInvolvedInSpec : ChangeSpec := { name := "fnExactInvolvedIn", fn := fun _ => fun
  | [d1, d2] => { results := [.lit (.bool true)], args := [d1, d2] }
  | _ => none }
def fnExactInvolvedInRow : OpenClaim := { program := "ytpdilekfagfbiaa", sum := "91b0cde6a5984fd7b81444884f11623de1adb534f0f091dffc90be40ccbd2901", func := "loop.example/g00908/laws.FnExactInvolvedIn", spec := "fnExactInvolvedIn", apart := false }
def FnExactInvolvedInSaid : Prop := fnExactInvolvedInRow.holds Try.pinned (OpenSpec.ofChange fnExactInvolvedInSpec)

/-- ITS FALSE NEIGHBOUR: 'it returns false'. Refute it at one input. -/
def fnExactInvolvedInWrong : ChangeSpec := { name := "fnExactInvolvedIn", fn := fun _ => fun
  | [d1, d2] => { results := [.lit (.bool false)], args := [d1, d2] }
  | _ => none }
def FnExactInvolvedInWrongFalsely : Prop := fnExactInvolvedInRow.holds Try.pinned (OpenSpec.ofChange fnExactInvolvedInWrong)

/- THE SECOND FORM. 'bulk': how many values and letters a reading holds, each counted each time it is reached (what is shared counts as often as it is met; a slice's spare places count too). A statement '..UptoSaid' is the law's where the arguments, and the package variables that the reading takes, are together of bulk at most 1048576: NARROWER than '..Said'. Prove '..Said' where nothing that the law and all that it calls make is longer than what came in: it says more and counts as full. Else prove '..UptoSaid'. A law counts once. -/
mutual
def uptoBulk {H : Type} : DataW H → Nat
  | .lit (.string bytes) => bytes.length + 1
  | .lit _ => 1
  | .nil => 1
  | .ptr d => uptoBulk d + 1
  | .slice elems spare => uptoBulkAll elems + uptoBulkAll spare + 1
  | .agg parts => uptoBulkAll parts + 1
  | .iface _ d => uptoBulk d + 1
  | .map entries => uptoBulkEntries entries + 1
  | .held _ => 1
def uptoBulkAll {H : Type} : List (DataW H) → Nat
  | [] => 0
  | d :: r => uptoBulk d + uptoBulkAll r
def uptoBulkEntries {H : Type} : List (Lit × DataW H) → Nat
  | [] => 0
  | x :: r => uptoBulkEntry x + uptoBulkEntries r
def uptoBulkEntry {H : Type} : Lit × DataW H → Nat
  | (.string bytes, d) => bytes.length + uptoBulk d + 1
  | (_, d) => uptoBulk d + 1
 end
def uptoSmall : (H : Type) → List (DataW H) → Bool := fun _ ds => decide (uptoBulkAll ds ≤ 1048576)
def OpenSpec.upto (s : _root_.Go.ChangeSpec) : _root_.Go.OpenSpec := { _root_.Go.OpenSpec.ofChange s with cond := some uptoSmall }

/-- 'laws.FnExactMaximalEdits', WHERE WHAT IT READS IS OF BULK AT MOST 1048576: true; the input reads as it did. -/
def fnExactMaximalEditsUptoRow : OpenClaim := { program := "ytpdilekfagfbiaa", sum := "91b0cde6a5984fd7b81444884f11623de1adb534f0f091dffc90be40ccbd2901", func := "loop.example/g00908/laws.FnExactMaximalEdits", spec := "fnExactMaximalEdits", unfollowed := true, recurses := true, apart := false, narrowed := true }
def FnExactMaximalEditsUptoSaid : Prop := fnExactMaximalEditsUptoRow.holds Try.pinned (OpenSpec.upto fnExactMaximalEditsSpec)

/-- 'laws.FnExactEliminateVariable', WHERE WHAT IT READS IS OF BULK AT MOST 1048576: true; the input reads as it did. -/
def fnExactEliminateVariableUptoRow : OpenClaim := { program := "ytpdilekfagfbiaa", sum := "91b0cde6a5984fd7b81444884f11623de1adb534f0f091dffc90be40ccbd2901", func := "loop.example/g00908/laws.FnExactEliminateVariable", spec := "fnExactEliminateVariable", unfollowed := true, recurses := true, apart := false, narrowed := true }
def FnExactEliminateVariableUptoSaid : Prop := fnExactEliminateVariableUptoRow.holds Try.pinned (OpenSpec.upto fnExactEliminateVariableSpec)

/-- 'laws.FnExactEditsOnly', WHERE WHAT IT READS IS OF BULK AT MOST 1048576: true; the input reads as it did. -/
def fnExactEditsOnlyUptoRow : OpenClaim := { program := "ytpdilekfagfbiaa", sum := "91b0cde6a5984fd7b81444884f11623de1adb534f0f091dffc90be40ccbd2901", func := "loop.example/g00908/laws.FnExactEditsOnly", spec := "fnExactEditsOnly", unfollowed := true, recurses := true, apart := false, narrowed := true }
def FnExactEditsOnlyUptoSaid : Prop := fnExactEditsOnlyUptoRow.holds Try.pinned (OpenSpec.upto fnExactEditsOnlySpec)

/-- 'laws.FnExactWithoutContained', WHERE WHAT IT READS IS OF BULK AT MOST 1048576: true; the input reads as it did. -/
def fnExactWithoutContainedUptoRow : OpenClaim := { program := "ytpdilekfagfbiaa", sum := "91b0cde6a5984fd7b81444884f11623de1adb534f0f091dffc90be40ccbd2901", func := "loop.example/g00908/laws.FnExactWithoutContained", spec := "fnExactWithoutContained", unfollowed := true, recurses := true, apart := false, narrowed := true }
def FnExactWithoutContainedUptoSaid : Prop := fnExactWithoutContainedUptoRow.holds Try.pinned (OpenSpec.upto fnExactWithoutContainedSpec)

/-- 'laws.FnExactIsCover', WHERE WHAT IT READS IS OF BULK AT MOST 1048576: true; the input reads as it did. -/
def fnExactIsCoverUptoRow : OpenClaim := { program := "ytpdilekfagfbiaa", sum := "91b0cde6a5984fd7b81444884f11623de1adb534f0f091dffc90be40ccbd2901", func := "loop.example/g00908/laws.FnExactIsCover", spec := "fnExactIsCover", unfollowed := true, recurses := true, apart := false, narrowed := true }
def FnExactIsCoverUptoSaid : Prop := fnExactIsCoverUptoRow.holds Try.pinned (OpenSpec.upto fnExactIsCoverSpec)

/-- 'laws.FnExactPackingBound', WHERE WHAT IT READS IS OF BULK AT MOST 1048576: true; the input reads as it did. -/
def fnExactPackingBoundUptoRow : OpenClaim := { program := "ytpdilekfagfbiaa", sum := "91b0cde6a5984fd7b81444884f11623de1adb534f0f091dffc90be40ccbd2901", func := "loop.example/g00908/laws.FnExactPackingBound", spec := "fnExactPackingBound", unfollowed := true, recurses := true, apart := false, narrowed := true }
def FnExactPackingBoundUptoSaid : Prop := fnExactPackingBoundUptoRow.holds Try.pinned (OpenSpec.upto fnExactPackingBoundSpec)

/-- 'laws.FnExactChangeCost', WHERE WHAT IT READS IS OF BULK AT MOST 1048576: true; the input reads as it did. -/
def fnExactChangeCostUptoRow : OpenClaim := { program := "ytpdilekfagfbiaa", sum := "91b0cde6a5984fd7b81444884f11623de1adb534f0f091dffc90be40ccbd2901", func := "loop.example/g00908/laws.FnExactChangeCost", spec := "fnExactChangeCost", apart := false, narrowed := true }
def FnExactChangeCostUptoSaid : Prop := fnExactChangeCostUptoRow.holds Try.pinned (OpenSpec.upto fnExactChangeCostSpec)

/-- 'laws.FnExactIsMend', WHERE WHAT IT READS IS OF BULK AT MOST 1048576: true; the input reads as it did. -/
def fnExactIsMendUptoRow : OpenClaim := { program := "ytpdilekfagfbiaa", sum := "91b0cde6a5984fd7b81444884f11623de1adb534f0f091dffc90be40ccbd2901", func := "loop.example/g00908/laws.FnExactIsMend", spec := "fnExactIsMend", apart := false, narrowed := true }
def FnExactIsMendUptoSaid : Prop := fnExactIsMendUptoRow.holds Try.pinned (OpenSpec.upto fnExactIsMendSpec)

/-- 'laws.FnExactFailingRecords', WHERE WHAT IT READS IS OF BULK AT MOST 1048576: true; the input reads as it did. -/
def fnExactFailingRecordsUptoRow : OpenClaim := { program := "ytpdilekfagfbiaa", sum := "91b0cde6a5984fd7b81444884f11623de1adb534f0f091dffc90be40ccbd2901", func := "loop.example/g00908/laws.FnExactFailingRecords", spec := "fnExactFailingRecords", apart := false, narrowed := true }
def FnExactFailingRecordsUptoSaid : Prop := fnExactFailingRecordsUptoRow.holds Try.pinned (OpenSpec.upto fnExactFailingRecordsSpec)

/-- 'laws.FnExactNearestDonor', WHERE WHAT IT READS IS OF BULK AT MOST 1048576: true; the input reads as it did. -/
def fnExactNearestDonorUptoRow : OpenClaim := { program := "ytpdilekfagfbiaa", sum := "91b0cde6a5984fd7b81444884f11623de1adb534f0f091dffc90be40ccbd2901", func := "loop.example/g00908/laws.FnExactNearestDonor", spec := "fnExactNearestDonor", apart := false, narrowed := true }
def FnExactNearestDonorUptoSaid : Prop := fnExactNearestDonorUptoRow.holds Try.pinned (OpenSpec.upto fnExactNearestDonorSpec)

/-- 'laws.FnExactFailedEdits', WHERE WHAT IT READS IS OF BULK AT MOST 1048576: true; the input reads as it did. -/
def fnExactFailedEditsUptoRow : OpenClaim := { program := "ytpdilekfagfbiaa", sum := "91b0cde6a5984fd7b81444884f11623de1adb534f0f091dffc90be40ccbd2901", func := "loop.example/g00908/laws.FnExactFailedEdits", spec := "fnExactFailedEdits", apart := false, narrowed := true }
def FnExactFailedEditsUptoSaid : Prop := fnExactFailedEditsUptoRow.holds Try.pinned (OpenSpec.upto fnExactFailedEditsSpec)

/-- 'laws.FnExactInvolvedIn', WHERE WHAT IT READS IS OF BULK AT MOST 1048576: true; the input reads as it did. -/
def fnExactInvolvedInUptoRow : OpenClaim := { program := "ytpdilekfagfbiaa", sum := "91b0cde6a5984fd7b81444884f11623de1adb534f0f091dffc90be40ccbd2901", func := "loop.example/g00908/laws.FnExactInvolvedIn", spec := "fnExactInvolvedIn", apart := false, narrowed := true }
def FnExactInvolvedInUptoSaid : Prop := fnExactInvolvedInUptoRow.holds Try.pinned (OpenSpec.upto fnExactInvolvedInSpec)

end Rows
end Go.Proofs.Ytpdilekfagfbiaa
