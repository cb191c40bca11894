/-
  No cell of these rows narrows 'for every input' (looked for: loops, veiled, ifaces, maps, wideKeys, modest, calm, conditions, laid).
  DERIVED. THE GIVEN ROWS OF THIS SEAT. 12 by the template 'for every input the law returns true; each argument reads behind the call as it read before'; 0 by the template 'total and deterministic' (their statements: YtfaobfgckfjnjaaTotals.lean).
  GIVEN WITH THE SEED: the statements are not yours to turn. If you find one false, say at which input.
  Laid BY PROGRAM, IN A SANDBOX (cutbox-rows.mjs): the forced cells as the released guide's own fill.sh prints them over the translation 5343ac28fdc8656f… (all of the seat's roots in one cut). By AI agents, Wed Nov 11 2026. No macro, syntax, notation, axiom, sorry.
-/
import Derived.Test.YtfaobfgckfjnjaaChecked
import GoSem.Claim
import GoSem.ClaimJoined
import GoSem.ClaimMapViews
import Derived.JoinedTies
import Derived.KernelRfl
namespace Go.Proofs.Ytfaobfgckfjnjaa
/- THE CELL 'sum', in the pinned program and in every row, IS THE sha256 OF THE DUMP (.gsa) THAT YtfaobfgckfjnjaaProg.lean LOADS. Nothing in Lean hashes anything: it is a label: what it is worth is what the hold of that sum in a sandbox is worth. -/
noncomputable def Try.pinned : Pinned := { name := "ytfaobfgckfjnjaa", sum := "5343ac28fdc8656fe8572d16c4e86092efb6379a1caaaf081248244a4838154a", checked := Try.checked }
namespace Rows
def none {H : Type} : Left H := { results := [], args := [] }

/-- 'laws.FnExactResolveEdits': WHATEVER THE INPUT: true; the input reads as it did. -/
def fnExactResolveEditsSpec : ChangeSpec := { name := "fnExactResolveEdits", fn := fun _ => fun
  | [d1, d2, d3, d4] => { results := [.lit (.bool true)], args := [d1, d2, d3, d4] }
  | _ => none }
def fnExactResolveEditsRow : OpenClaim := { program := "ytfaobfgckfjnjaa", sum := "5343ac28fdc8656fe8572d16c4e86092efb6379a1caaaf081248244a4838154a", func := "loop.example/g00908/laws.FnExactResolveEdits", spec := "fnExactResolveEdits", apart := false }
def FnExactResolveEditsSaid : Prop := fnExactResolveEditsRow.holds Try.pinned (OpenSpec.ofChange fnExactResolveEditsSpec)

/-- ITS FALSE NEIGHBOUR: 'it returns false'. Refute it at one input. -/
def fnExactResolveEditsWrong : ChangeSpec := { name := "fnExactResolveEdits", fn := fun _ => fun
  | [d1, d2, d3, d4] => { results := [.lit (.bool false)], args := [d1, d2, d3, d4] }
  | _ => none }
def FnExactResolveEditsWrongFalsely : Prop := fnExactResolveEditsRow.holds Try.pinned (OpenSpec.ofChange fnExactResolveEditsWrong)

/-- 'laws.FnExactIsImplied': WHATEVER THE INPUT: true; the input reads as it did. -/
def fnExactIsImpliedSpec : ChangeSpec := { name := "fnExactIsImplied", fn := fun _ => fun
  | [d1, d2, d3] => { results := [.lit (.bool true)], args := [d1, d2, d3] }
  | _ => none }
def fnExactIsImpliedRow : OpenClaim := { program := "ytfaobfgckfjnjaa", sum := "5343ac28fdc8656fe8572d16c4e86092efb6379a1caaaf081248244a4838154a", func := "loop.example/g00908/laws.FnExactIsImplied", spec := "fnExactIsImplied", unfollowed := true, recurses := true, apart := false }
def FnExactIsImpliedSaid : Prop := fnExactIsImpliedRow.holds Try.pinned (OpenSpec.ofChange fnExactIsImpliedSpec)

/-- ITS FALSE NEIGHBOUR: 'it returns false'. Refute it at one input. -/
def fnExactIsImpliedWrong : ChangeSpec := { name := "fnExactIsImplied", fn := fun _ => fun
  | [d1, d2, d3] => { results := [.lit (.bool false)], args := [d1, d2, d3] }
  | _ => none }
def FnExactIsImpliedWrongFalsely : Prop := fnExactIsImpliedRow.holds Try.pinned (OpenSpec.ofChange fnExactIsImpliedWrong)

/-- 'laws.FnExactWithoutContained': WHATEVER THE INPUT: true; the input reads as it did. -/
def fnExactWithoutContainedSpec : ChangeSpec := { name := "fnExactWithoutContained", fn := fun _ => fun
  | [d1, d2] => { results := [.lit (.bool true)], args := [d1, d2] }
  | _ => none }
def fnExactWithoutContainedRow : OpenClaim := { program := "ytfaobfgckfjnjaa", sum := "5343ac28fdc8656fe8572d16c4e86092efb6379a1caaaf081248244a4838154a", func := "loop.example/g00908/laws.FnExactWithoutContained", spec := "fnExactWithoutContained", unfollowed := true, recurses := true, apart := false }
def FnExactWithoutContainedSaid : Prop := fnExactWithoutContainedRow.holds Try.pinned (OpenSpec.ofChange fnExactWithoutContainedSpec)

/-- ITS FALSE NEIGHBOUR: 'it returns false'. Refute it at one input. -/
def fnExactWithoutContainedWrong : ChangeSpec := { name := "fnExactWithoutContained", fn := fun _ => fun
  | [d1, d2] => { results := [.lit (.bool false)], args := [d1, d2] }
  | _ => none }
def FnExactWithoutContainedWrongFalsely : Prop := fnExactWithoutContainedRow.holds Try.pinned (OpenSpec.ofChange fnExactWithoutContainedWrong)

/-- 'laws.FnExactMaximalEdits': WHATEVER THE INPUT: true; the input reads as it did. -/
def fnExactMaximalEditsSpec : ChangeSpec := { name := "fnExactMaximalEdits", fn := fun _ => fun
  | [d1, d2] => { results := [.lit (.bool true)], args := [d1, d2] }
  | _ => none }
def fnExactMaximalEditsRow : OpenClaim := { program := "ytfaobfgckfjnjaa", sum := "5343ac28fdc8656fe8572d16c4e86092efb6379a1caaaf081248244a4838154a", func := "loop.example/g00908/laws.FnExactMaximalEdits", spec := "fnExactMaximalEdits", unfollowed := true, recurses := true, apart := false }
def FnExactMaximalEditsSaid : Prop := fnExactMaximalEditsRow.holds Try.pinned (OpenSpec.ofChange fnExactMaximalEditsSpec)

/-- ITS FALSE NEIGHBOUR: 'it returns false'. Refute it at one input. -/
def fnExactMaximalEditsWrong : ChangeSpec := { name := "fnExactMaximalEdits", fn := fun _ => fun
  | [d1, d2] => { results := [.lit (.bool false)], args := [d1, d2] }
  | _ => none }
def FnExactMaximalEditsWrongFalsely : Prop := fnExactMaximalEditsRow.holds Try.pinned (OpenSpec.ofChange fnExactMaximalEditsWrong)

/-- 'laws.FnExactEliminateVariable': WHATEVER THE INPUT: true; the input reads as it did. -/
def fnExactEliminateVariableSpec : ChangeSpec := { name := "fnExactEliminateVariable", fn := fun _ => fun
  | [d1, d2, d3] => { results := [.lit (.bool true)], args := [d1, d2, d3] }
  | _ => none }
def fnExactEliminateVariableRow : OpenClaim := { program := "ytfaobfgckfjnjaa", sum := "5343ac28fdc8656fe8572d16c4e86092efb6379a1caaaf081248244a4838154a", func := "loop.example/g00908/laws.FnExactEliminateVariable", spec := "fnExactEliminateVariable", unfollowed := true, recurses := true, apart := false }
def FnExactEliminateVariableSaid : Prop := fnExactEliminateVariableRow.holds Try.pinned (OpenSpec.ofChange fnExactEliminateVariableSpec)

/-- ITS FALSE NEIGHBOUR: 'it returns false'. Refute it at one input. -/
def fnExactEliminateVariableWrong : ChangeSpec := { name := "fnExactEliminateVariable", fn := fun _ => fun
  | [d1, d2, d3] => { results := [.lit (.bool false)], args := [d1, d2, d3] }
  | _ => none }
def FnExactEliminateVariableWrongFalsely : Prop := fnExactEliminateVariableRow.holds Try.pinned (OpenSpec.ofChange fnExactEliminateVariableWrong)

/-- 'laws.FnExactIsContradictory': WHATEVER THE INPUT: true; the input reads as it did. -/
def fnExactIsContradictorySpec : ChangeSpec := { name := "fnExactIsContradictory", fn := fun _ => fun
  | [d1, d2] => { results := [.lit (.bool true)], args := [d1, d2] }
  | _ => none }
def fnExactIsContradictoryRow : OpenClaim := { program := "ytfaobfgckfjnjaa", sum := "5343ac28fdc8656fe8572d16c4e86092efb6379a1caaaf081248244a4838154a", func := "loop.example/g00908/laws.FnExactIsContradictory", spec := "fnExactIsContradictory", unfollowed := true, recurses := true, apart := false }
def FnExactIsContradictorySaid : Prop := fnExactIsContradictoryRow.holds Try.pinned (OpenSpec.ofChange fnExactIsContradictorySpec)

/-- ITS FALSE NEIGHBOUR: 'it returns false'. Refute it at one input. -/
def fnExactIsContradictoryWrong : ChangeSpec := { name := "fnExactIsContradictory", fn := fun _ => fun
  | [d1, d2] => { results := [.lit (.bool false)], args := [d1, d2] }
  | _ => none }
def FnExactIsContradictoryWrongFalsely : Prop := fnExactIsContradictoryRow.holds Try.pinned (OpenSpec.ofChange fnExactIsContradictoryWrong)

/-- 'laws.FnExactCanComplete': WHATEVER THE INPUT: true; the input reads as it did. -/
def fnExactCanCompleteSpec : ChangeSpec := { name := "fnExactCanComplete", fn := fun _ => fun
  | [d1, d2, d3, d4] => { results := [.lit (.bool true)], args := [d1, d2, d3, d4] }
  | _ => none }
def fnExactCanCompleteRow : OpenClaim := { program := "ytfaobfgckfjnjaa", sum := "5343ac28fdc8656fe8572d16c4e86092efb6379a1caaaf081248244a4838154a", func := "loop.example/g00908/laws.FnExactCanComplete", spec := "fnExactCanComplete", unfollowed := true, recurses := true, apart := false }
def FnExactCanCompleteSaid : Prop := fnExactCanCompleteRow.holds Try.pinned (OpenSpec.ofChange fnExactCanCompleteSpec)

/-- ITS FALSE NEIGHBOUR: 'it returns false'. Refute it at one input. -/
def fnExactCanCompleteWrong : ChangeSpec := { name := "fnExactCanComplete", fn := fun _ => fun
  | [d1, d2, d3, d4] => { results := [.lit (.bool false)], args := [d1, d2, d3, d4] }
  | _ => none }
def FnExactCanCompleteWrongFalsely : Prop := fnExactCanCompleteRow.holds Try.pinned (OpenSpec.ofChange fnExactCanCompleteWrong)

/-- 'laws.FnExactCompletionOf': WHATEVER THE INPUT: true; the input reads as it did. -/
def fnExactCompletionOfSpec : ChangeSpec := { name := "fnExactCompletionOf", fn := fun _ => fun
  | [d1, d2, d3, d4] => { results := [.lit (.bool true)], args := [d1, d2, d3, d4] }
  | _ => none }
def fnExactCompletionOfRow : OpenClaim := { program := "ytfaobfgckfjnjaa", sum := "5343ac28fdc8656fe8572d16c4e86092efb6379a1caaaf081248244a4838154a", func := "loop.example/g00908/laws.FnExactCompletionOf", spec := "fnExactCompletionOf", unfollowed := true, recurses := true, apart := false }
def FnExactCompletionOfSaid : Prop := fnExactCompletionOfRow.holds Try.pinned (OpenSpec.ofChange fnExactCompletionOfSpec)

/-- ITS FALSE NEIGHBOUR: 'it returns false'. Refute it at one input. -/
def fnExactCompletionOfWrong : ChangeSpec := { name := "fnExactCompletionOf", fn := fun _ => fun
  | [d1, d2, d3, d4] => { results := [.lit (.bool false)], args := [d1, d2, d3, d4] }
  | _ => none }
def FnExactCompletionOfWrongFalsely : Prop := fnExactCompletionOfRow.holds Try.pinned (OpenSpec.ofChange fnExactCompletionOfWrong)

/-- 'laws.FnExactSmallestCover': WHATEVER THE INPUT: true; the input reads as it did. -/
def fnExactSmallestCoverSpec : ChangeSpec := { name := "fnExactSmallestCover", fn := fun _ => fun
  | [d1, d2, d3] => { results := [.lit (.bool true)], args := [d1, d2, d3] }
  | _ => none }
def fnExactSmallestCoverRow : OpenClaim := { program := "ytfaobfgckfjnjaa", sum := "5343ac28fdc8656fe8572d16c4e86092efb6379a1caaaf081248244a4838154a", func := "loop.example/g00908/laws.FnExactSmallestCover", spec := "fnExactSmallestCover", unfollowed := true, recurses := true, apart := false }
def FnExactSmallestCoverSaid : Prop := fnExactSmallestCoverRow.holds Try.pinned (OpenSpec.ofChange fnExactSmallestCoverSpec)

/-- ITS FALSE NEIGHBOUR: 'it returns false'. Refute it at one input. -/
def fnExactSmallestCoverWrong : ChangeSpec := { name := "fnExactSmallestCover", fn := fun _ => fun
  | [d1, d2, d3] => { results := [.lit (.bool false)], args := [d1, d2, d3] }
  | _ => none }
def FnExactSmallestCoverWrongFalsely : Prop := fnExactSmallestCoverRow.holds Try.pinned (OpenSpec.ofChange fnExactSmallestCoverWrong)

/-- 'laws.FnExactEditsOnly': WHATEVER THE INPUT: true; the input reads as it did. -/
def fnExactEditsOnlySpec : ChangeSpec := { name := "fnExactEditsOnly", fn := fun _ => fun
  | [d1, d2, d3] => { results := [.lit (.bool true)], args := [d1, d2, d3] }
  | _ => none }
def fnExactEditsOnlyRow : OpenClaim := { program := "ytfaobfgckfjnjaa", sum := "5343ac28fdc8656fe8572d16c4e86092efb6379a1caaaf081248244a4838154a", func := "loop.example/g00908/laws.FnExactEditsOnly", spec := "fnExactEditsOnly", unfollowed := true, recurses := true, apart := false }
def FnExactEditsOnlySaid : Prop := fnExactEditsOnlyRow.holds Try.pinned (OpenSpec.ofChange fnExactEditsOnlySpec)

/-- ITS FALSE NEIGHBOUR: 'it returns false'. Refute it at one input. -/
def fnExactEditsOnlyWrong : ChangeSpec := { name := "fnExactEditsOnly", fn := fun _ => fun
  | [d1, d2, d3] => { results := [.lit (.bool false)], args := [d1, d2, d3] }
  | _ => none }
def FnExactEditsOnlyWrongFalsely : Prop := fnExactEditsOnlyRow.holds Try.pinned (OpenSpec.ofChange fnExactEditsOnlyWrong)

/-- 'laws.FnExactContainsEdit': WHATEVER THE INPUT: true; the input reads as it did. -/
def fnExactContainsEditSpec : ChangeSpec := { name := "fnExactContainsEdit", fn := fun _ => fun
  | [d1, d2, d3] => { results := [.lit (.bool true)], args := [d1, d2, d3] }
  | _ => none }
def fnExactContainsEditRow : OpenClaim := { program := "ytfaobfgckfjnjaa", sum := "5343ac28fdc8656fe8572d16c4e86092efb6379a1caaaf081248244a4838154a", func := "loop.example/g00908/laws.FnExactContainsEdit", spec := "fnExactContainsEdit", apart := false }
def FnExactContainsEditSaid : Prop := fnExactContainsEditRow.holds Try.pinned (OpenSpec.ofChange fnExactContainsEditSpec)

/-- ITS FALSE NEIGHBOUR: 'it returns false'. Refute it at one input. -/
def fnExactContainsEditWrong : ChangeSpec := { name := "fnExactContainsEdit", fn := fun _ => fun
  | [d1, d2, d3] => { results := [.lit (.bool false)], args := [d1, d2, d3] }
  | _ => none }
def FnExactContainsEditWrongFalsely : Prop := fnExactContainsEditRow.holds Try.pinned (OpenSpec.ofChange fnExactContainsEditWrong)

/-- 'laws.FnPassing': WHATEVER THE INPUT: true; the input reads as it did. -/
def fnPassingSpec : ChangeSpec := { name := "fnPassing", fn := fun _ => fun
  | [d1, d2] => { results := [.lit (.bool true)], args := [d1, d2] }
  | _ => none }
def fnPassingRow : OpenClaim := { program := "ytfaobfgckfjnjaa", sum := "5343ac28fdc8656fe8572d16c4e86092efb6379a1caaaf081248244a4838154a", func := "loop.example/g00908/laws.FnPassing", spec := "fnPassing", unfollowed := true, recurses := true, apart := false }
def FnPassingSaid : Prop := fnPassingRow.holds Try.pinned (OpenSpec.ofChange fnPassingSpec)

/-- ITS FALSE NEIGHBOUR: 'it returns false'. Refute it at one input. -/
def fnPassingWrong : ChangeSpec := { name := "fnPassing", fn := fun _ => fun
  | [d1, d2] => { results := [.lit (.bool false)], args := [d1, d2] }
  | _ => none }
def FnPassingWrongFalsely : Prop := fnPassingRow.holds Try.pinned (OpenSpec.ofChange fnPassingWrong)

/- THE SECOND FORM. 'bulk': how many values and letters a reading holds, each counted each time it is reached (what is shared counts as often as it is met; a slice's spare places count too). A statement '..UptoSaid' is the law's where the arguments, and the package variables that the reading takes, are together of bulk at most 1048576: NARROWER than '..Said'. Prove '..Said' where nothing that the law and all that it calls make is longer than what came in: it says more and counts as full. Else prove '..UptoSaid'. A law counts once. -/
mutual
def uptoBulk {H : Type} : DataW H → Nat
  | .lit (.string bytes) => bytes.length + 1
  | .lit _ => 1
  | .nil => 1
  | .ptr d => uptoBulk d + 1
  | .slice elems spare => uptoBulkAll elems + uptoBulkAll spare + 1
  | .agg parts => uptoBulkAll parts + 1
  | .iface _ d => uptoBulk d + 1
  | .map entries => uptoBulkEntries entries + 1
  | .held _ => 1
def uptoBulkAll {H : Type} : List (DataW H) → Nat
  | [] => 0
  | d :: r => uptoBulk d + uptoBulkAll r
def uptoBulkEntries {H : Type} : List (Lit × DataW H) → Nat
  | [] => 0
  | x :: r => uptoBulkEntry x + uptoBulkEntries r
def uptoBulkEntry {H : Type} : Lit × DataW H → Nat
  | (.string bytes, d) => bytes.length + uptoBulk d + 1
  | (_, d) => uptoBulk d + 1
 end
def uptoSmall : (H : Type) → List (DataW H) → Bool := fun _ ds => decide (uptoBulkAll ds ≤ 1048576)
def OpenSpec.upto (s : _root_.Go.ChangeSpec) : _root_.Go.OpenSpec := { _root_.Go.OpenSpec.ofChange s with cond := some uptoSmall }

/-- 'laws.FnExactResolveEdits', WHERE WHAT IT READS IS OF BULK AT MOST 1048576: true; the input reads as it did. -/
def fnExactResolveEditsUptoRow : OpenClaim := { program := "ytfaobfgckfjnjaa", sum := "5343ac28fdc8656fe8572d16c4e86092efb6379a1caaaf081248244a4838154a", func := "loop.example/g00908/laws.FnExactResolveEdits", spec := "fnExactResolveEdits", apart := false, narrowed := true }
def FnExactResolveEditsUptoSaid : Prop := fnExactResolveEditsUptoRow.holds Try.pinned (OpenSpec.upto fnExactResolveEditsSpec)

/-- 'laws.FnExactIsImplied', WHERE WHAT IT READS IS OF BULK AT MOST 1048576: true; the input reads as it did. -/
def fnExactIsImpliedUptoRow : OpenClaim := { program := "ytfaobfgckfjnjaa", sum := "5343ac28fdc8656fe8572d16c4e86092efb6379a1caaaf081248244a4838154a", func := "loop.example/g00908/laws.FnExactIsImplied", spec := "fnExactIsImplied", unfollowed := true, recurses := true, apart := false, narrowed := true }
def FnExactIsImpliedUptoSaid : Prop := fnExactIsImpliedUptoRow.holds Try.pinned (OpenSpec.upto fnExactIsImpliedSpec)

/-- 'laws.FnExactWithoutContained', WHERE WHAT IT READS IS OF BULK AT MOST 1048576: true; the input reads as it did. -/
def fnExactWithoutContainedUptoRow : OpenClaim := { program := "ytfaobfgckfjnjaa", sum := "5343ac28fdc8656fe8572d16c4e86092efb6379a1caaaf081248244a4838154a", func := "loop.example/g00908/laws.FnExactWithoutContained", spec := "fnExactWithoutContained", unfollowed := true, recurses := true, apart := false, narrowed := true }
def FnExactWithoutContainedUptoSaid : Prop := fnExactWithoutContainedUptoRow.holds Try.pinned (OpenSpec.upto fnExactWithoutContainedSpec)

/-- 'laws.FnExactMaximalEdits', WHERE WHAT IT READS IS OF BULK AT MOST 1048576: true; the input reads as it did. -/
def fnExactMaximalEditsUptoRow : OpenClaim := { program := "ytfaobfgckfjnjaa", sum := "5343ac28fdc8656fe8572d16c4e86092efb6379a1caaaf081248244a4838154a", func := "loop.example/g00908/laws.FnExactMaximalEdits", spec := "fnExactMaximalEdits", unfollowed := true, recurses := true, apart := false, narrowed := true }
def FnExactMaximalEditsUptoSaid : Prop := fnExactMaximalEditsUptoRow.holds Try.pinned (OpenSpec.upto fnExactMaximalEditsSpec)

/-- 'laws.FnExactEliminateVariable', WHERE WHAT IT READS IS OF BULK AT MOST 1048576: true; the input reads as it did. -/
def fnExactEliminateVariableUptoRow : OpenClaim := { program := "ytfaobfgckfjnjaa", sum := "5343ac28fdc8656fe8572d16c4e86092efb6379a1caaaf081248244a4838154a", func := "loop.example/g00908/laws.FnExactEliminateVariable", spec := "fnExactEliminateVariable", unfollowed := true, recurses := true, apart := false, narrowed := true }
def FnExactEliminateVariableUptoSaid : Prop := fnExactEliminateVariableUptoRow.holds Try.pinned (OpenSpec.upto fnExactEliminateVariableSpec)

/-- 'laws.FnExactIsContradictory', WHERE WHAT IT READS IS OF BULK AT MOST 1048576: true; the input reads as it did. -/
def fnExactIsContradictoryUptoRow : OpenClaim := { program := "ytfaobfgckfjnjaa", sum := "5343ac28fdc8656fe8572d16c4e86092efb6379a1caaaf081248244a4838154a", func := "loop.example/g00908/laws.FnExactIsContradictory", spec := "fnExactIsContradictory", unfollowed := true, recurses := true, apart := false, narrowed := true }
def FnExactIsContradictoryUptoSaid : Prop := fnExactIsContradictoryUptoRow.holds Try.pinned (OpenSpec.upto fnExactIsContradictorySpec)

/-- 'laws.FnExactCanComplete', WHERE WHAT IT READS IS OF BULK AT MOST 1048576: true; the input reads as it did. -/
def fnExactCanCompleteUptoRow : OpenClaim := { program := "ytfaobfgckfjnjaa", sum := "5343ac28fdc8656fe8572d16c4e86092efb6379a1caaaf081248244a4838154a", func := "loop.example/g00908/laws.FnExactCanComplete", spec := "fnExactCanComplete", unfollowed := true, recurses := true, apart := false, narrowed := true }
def FnExactCanCompleteUptoSaid : Prop := fnExactCanCompleteUptoRow.holds Try.pinned (OpenSpec.upto fnExactCanCompleteSpec)

/-- 'laws.FnExactCompletionOf', WHERE WHAT IT READS IS OF BULK AT MOST 1048576: true; the input reads as it did. -/
def fnExactCompletionOfUptoRow : OpenClaim := { program := "ytfaobfgckfjnjaa", sum := "5343ac28fdc8656fe8572d16c4e86092efb6379a1caaaf081248244a4838154a", func := "loop.example/g00908/laws.FnExactCompletionOf", spec := "fnExactCompletionOf", unfollowed := true, recurses := true, apart := false, narrowed := true }
def FnExactCompletionOfUptoSaid : Prop := fnExactCompletionOfUptoRow.holds Try.pinned (OpenSpec.upto fnExactCompletionOfSpec)

/-- 'laws.FnExactSmallestCover', WHERE WHAT IT READS IS OF BULK AT MOST 1048576: true; the input reads as it did. -/
def fnExactSmallestCoverUptoRow : OpenClaim := { program := "ytfaobfgckfjnjaa", sum := "5343ac28fdc8656fe8572d16c4e86092efb6379a1caaaf081248244a4838154a", func := "loop.example/g00908/laws.FnExactSmallestCover", spec := "fnExactSmallestCover", unfollowed := true, recurses := true, apart := false, narrowed := true }
def FnExactSmallestCoverUptoSaid : Prop := fnExactSmallestCoverUptoRow.holds Try.pinned (OpenSpec.upto fnExactSmallestCoverSpec)

/-- 'laws.FnExactEditsOnly', WHERE WHAT IT READS IS OF BULK AT MOST 1048576: true; the input reads as it did. -/
def fnExactEditsOnlyUptoRow : OpenClaim := { program := "ytfaobfgckfjnjaa", sum := "5343ac28fdc8656fe8572d16c4e86092efb6379a1caaaf081248244a4838154a", func := "loop.example/g00908/laws.FnExactEditsOnly", spec := "fnExactEditsOnly", unfollowed := true, recurses := true, apart := false, narrowed := true }
def FnExactEditsOnlyUptoSaid : Prop := fnExactEditsOnlyUptoRow.holds Try.pinned (OpenSpec.upto fnExactEditsOnlySpec)

/-- 'laws.FnExactContainsEdit', WHERE WHAT IT READS IS OF BULK AT MOST 1048576: true; the input reads as it did. -/
def fnExactContainsEditUptoRow : OpenClaim := { program := "ytfaobfgckfjnjaa", sum := "5343ac28fdc8656fe8572d16c4e86092efb6379a1caaaf081248244a4838154a", func := "loop.example/g00908/laws.FnExactContainsEdit", spec := "fnExactContainsEdit", apart := false, narrowed := true }
def FnExactContainsEditUptoSaid : Prop := fnExactContainsEditUptoRow.holds Try.pinned (OpenSpec.upto fnExactContainsEditSpec)

/-- 'laws.FnPassing', WHERE WHAT IT READS IS OF BULK AT MOST 1048576: true; the input reads as it did. -/
def fnPassingUptoRow : OpenClaim := { program := "ytfaobfgckfjnjaa", sum := "5343ac28fdc8656fe8572d16c4e86092efb6379a1caaaf081248244a4838154a", func := "loop.example/g00908/laws.FnPassing", spec := "fnPassing", unfollowed := true, recurses := true, apart := false, narrowed := true }
def FnPassingUptoSaid : Prop := fnPassingUptoRow.holds Try.pinned (OpenSpec.upto fnPassingSpec)

end Rows
end Go.Proofs.Ytfaobfgckfjnjaa
