/-
  No cell of these rows narrows 'for every input' (looked for: loops, veiled, ifaces, maps, wideKeys, modest, calm, conditions, laid).
  DERIVED. THE GIVEN ROWS OF THIS SEAT. 10 by the template 'for every input the law returns true; each argument reads behind the call as it read before'; 0 by the template 'total and deterministic' (their statements: YtmbchahjgefbpaaTotals.lean).
  GIVEN WITH THE SEED: the statements are not yours to turn. If you find one false, say at which input.
  Laid BY PROGRAM, IN A SANDBOX (cutbox-rows.mjs): the forced cells as the released guide's own fill.sh prints them over the translation b4016a26685d2f20… (all of the seat's roots in one cut). By AI agents, Wed Nov 11 2026. No macro, syntax, notation, axiom, sorry.
-/
import Derived.Test.YtmbchahjgefbpaaChecked
import GoSem.Claim
import GoSem.ClaimJoined
import GoSem.ClaimMapViews
import Derived.JoinedTies
import Derived.KernelRfl
namespace Go.Proofs.Ytmbchahjgefbpaa
/- THE CELL 'sum', in the pinned program and in every row, IS THE sha256 OF THE DUMP (.gsa) THAT YtmbchahjgefbpaaProg.lean LOADS. Nothing in Lean hashes anything: it is a label: what it is worth is what the hold of that sum in a sandbox is worth. -/
noncomputable def Try.pinned : Pinned := { name := "ytmbchahjgefbpaa", sum := "b4016a26685d2f2063be2f29cd1c54cfee61032eb51febd523e5dcef7996e50c", checked := Try.checked }
namespace Rows
def none {H : Type} : Left H := { results := [], args := [] }

/-- 'laws.FnExactIsEdit': WHATEVER THE INPUT: true; the input reads as it did. -/
def fnExactIsEditSpec : ChangeSpec := { name := "fnExactIsEdit", fn := fun _ => fun
  | [d1, d2] => { results := [.lit (.bool true)], args := [d1, d2] }
  | _ => none }
def fnExactIsEditRow : OpenClaim := { program := "ytmbchahjgefbpaa", sum := "b4016a26685d2f2063be2f29cd1c54cfee61032eb51febd523e5dcef7996e50c", func := "loop.example/g00908/laws.FnExactIsEdit", spec := "fnExactIsEdit", apart := false }
def FnExactIsEditSaid : Prop := fnExactIsEditRow.holds Try.pinned (OpenSpec.ofChange fnExactIsEditSpec)

/-- ITS FALSE NEIGHBOUR: 'it returns false'. Refute it at one input. -/
def fnExactIsEditWrong : ChangeSpec := { name := "fnExactIsEdit", fn := fun _ => fun
  | [d1, d2] => { results := [.lit (.bool false)], args := [d1, d2] }
  | _ => none }
def FnExactIsEditWrongFalsely : Prop := fnExactIsEditRow.holds Try.pinned (OpenSpec.ofChange fnExactIsEditWrong)

/-- 'laws.FnExactFailsEdit': WHATEVER THE INPUT: true; the input reads as it did. -/
def fnExactFailsEditSpec : ChangeSpec := { name := "fnExactFailsEdit", fn := fun _ => fun
  | [d1, d2, d3] => { results := [.lit (.bool true)], args := [d1, d2, d3] }
  | _ => none }
def fnExactFailsEditRow : OpenClaim := { program := "ytmbchahjgefbpaa", sum := "b4016a26685d2f2063be2f29cd1c54cfee61032eb51febd523e5dcef7996e50c", func := "loop.example/g00908/laws.FnExactFailsEdit", spec := "fnExactFailsEdit", apart := false }
def FnExactFailsEditSaid : Prop := fnExactFailsEditRow.holds Try.pinned (OpenSpec.ofChange fnExactFailsEditSpec)

/-- ITS FALSE NEIGHBOUR: 'it returns false'. Refute it at one input. -/
def fnExactFailsEditWrong : ChangeSpec := { name := "fnExactFailsEdit", fn := fun _ => fun
  | [d1, d2, d3] => { results := [.lit (.bool false)], args := [d1, d2, d3] }
  | _ => none }
def FnExactFailsEditWrongFalsely : Prop := fnExactFailsEditRow.holds Try.pinned (OpenSpec.ofChange fnExactFailsEditWrong)

/-- 'laws.FnExactFailedEdits': WHATEVER THE INPUT: true; the input reads as it did. -/
def fnExactFailedEditsSpec : ChangeSpec := { name := "fnExactFailedEdits", fn := fun _ => fun
  | [d1, d2, d3] => { results := [.lit (.bool true)], args := [d1, d2, d3] }
  | _ => none }
def fnExactFailedEditsRow : OpenClaim := { program := "ytmbchahjgefbpaa", sum := "b4016a26685d2f2063be2f29cd1c54cfee61032eb51febd523e5dcef7996e50c", func := "loop.example/g00908/laws.FnExactFailedEdits", spec := "fnExactFailedEdits", apart := false }
def FnExactFailedEditsSaid : Prop := fnExactFailedEditsRow.holds Try.pinned (OpenSpec.ofChange fnExactFailedEditsSpec)

/-- ITS FALSE NEIGHBOUR: 'it returns false'. Refute it at one input. -/
def fnExactFailedEditsWrong : ChangeSpec := { name := "fnExactFailedEdits", fn := fun _ => fun
  | [d1, d2, d3] => { results := [.lit (.bool false)], args := [d1, d2, d3] }
  | _ => none }
def FnExactFailedEditsWrongFalsely : Prop := fnExactFailedEditsRow.holds Try.pinned (OpenSpec.ofChange fnExactFailedEditsWrong)

/-- 'laws.FnExactInvolvedIn': WHATEVER THE INPUT: true; the input reads as it did. -/
def fnExactInvolvedInSpec : ChangeSpec := { name := "fnExactInvolvedIn", fn := fun _ => fun
  | [d1, d2] => { results := [.lit (.bool true)], args := [d1, d2] }
  | _ => none }
def fnExactInvolvedInRow : OpenClaim := { program := "ytmbchahjgefbpaa", sum := "b4016a26685d2f2063be2f29cd1c54cfee61032eb51febd523e5dcef7996e50c", func := "loop.example/g00908/laws.FnExactInvolvedIn", spec := "fnExactInvolvedIn", apart := false }
def FnExactInvolvedInSaid : Prop := fnExactInvolvedInRow.holds Try.pinned (OpenSpec.ofChange fnExactInvolvedInSpec)

/-- ITS FALSE NEIGHBOUR: 'it returns false'. Refute it at one input. -/
def fnExactInvolvedInWrong : ChangeSpec := { name := "fnExactInvolvedIn", fn := fun _ => fun
  | [d1, d2] => { results := [.lit (.bool false)], args := [d1, d2] }
  | _ => none }
def FnExactInvolvedInWrongFalsely : Prop := fnExactInvolvedInRow.holds Try.pinned (OpenSpec.ofChange fnExactInvolvedInWrong)

/-- 'laws.FnExactCountFailing': WHATEVER THE INPUT: true; the input reads as it did. -/
def fnExactCountFailingSpec : ChangeSpec := { name := "fnExactCountFailing", fn := fun _ => fun
  | [d1, d2] => { results := [.lit (.bool true)], args := [d1, d2] }
  | _ => none }
def fnExactCountFailingRow : OpenClaim := { program := "ytmbchahjgefbpaa", sum := "b4016a26685d2f2063be2f29cd1c54cfee61032eb51febd523e5dcef7996e50c", func := "loop.example/g00908/laws.FnExactCountFailing", spec := "fnExactCountFailing", apart := false }
def FnExactCountFailingSaid : Prop := fnExactCountFailingRow.holds Try.pinned (OpenSpec.ofChange fnExactCountFailingSpec)

/-- ITS FALSE NEIGHBOUR: 'it returns false'. Refute it at one input. -/
def fnExactCountFailingWrong : ChangeSpec := { name := "fnExactCountFailing", fn := fun _ => fun
  | [d1, d2] => { results := [.lit (.bool false)], args := [d1, d2] }
  | _ => none }
def FnExactCountFailingWrongFalsely : Prop := fnExactCountFailingRow.holds Try.pinned (OpenSpec.ofChange fnExactCountFailingWrong)

/-- 'laws.FnExactCountPassing': WHATEVER THE INPUT: true; the input reads as it did. -/
def fnExactCountPassingSpec : ChangeSpec := { name := "fnExactCountPassing", fn := fun _ => fun
  | [d1, d2] => { results := [.lit (.bool true)], args := [d1, d2] }
  | _ => none }
def fnExactCountPassingRow : OpenClaim := { program := "ytmbchahjgefbpaa", sum := "b4016a26685d2f2063be2f29cd1c54cfee61032eb51febd523e5dcef7996e50c", func := "loop.example/g00908/laws.FnExactCountPassing", spec := "fnExactCountPassing", unfollowed := true, recurses := true, apart := false }
def FnExactCountPassingSaid : Prop := fnExactCountPassingRow.holds Try.pinned (OpenSpec.ofChange fnExactCountPassingSpec)

/-- ITS FALSE NEIGHBOUR: 'it returns false'. Refute it at one input. -/
def fnExactCountPassingWrong : ChangeSpec := { name := "fnExactCountPassing", fn := fun _ => fun
  | [d1, d2] => { results := [.lit (.bool false)], args := [d1, d2] }
  | _ => none }
def FnExactCountPassingWrongFalsely : Prop := fnExactCountPassingRow.holds Try.pinned (OpenSpec.ofChange fnExactCountPassingWrong)

/-- 'laws.FnExactFirstPassing': WHATEVER THE INPUT: true; the input reads as it did. -/
def fnExactFirstPassingSpec : ChangeSpec := { name := "fnExactFirstPassing", fn := fun _ => fun
  | [d1, d2] => { results := [.lit (.bool true)], args := [d1, d2] }
  | _ => none }
def fnExactFirstPassingRow : OpenClaim := { program := "ytmbchahjgefbpaa", sum := "b4016a26685d2f2063be2f29cd1c54cfee61032eb51febd523e5dcef7996e50c", func := "loop.example/g00908/laws.FnExactFirstPassing", spec := "fnExactFirstPassing", unfollowed := true, recurses := true, apart := false }
def FnExactFirstPassingSaid : Prop := fnExactFirstPassingRow.holds Try.pinned (OpenSpec.ofChange fnExactFirstPassingSpec)

/-- ITS FALSE NEIGHBOUR: 'it returns false'. Refute it at one input. -/
def fnExactFirstPassingWrong : ChangeSpec := { name := "fnExactFirstPassing", fn := fun _ => fun
  | [d1, d2] => { results := [.lit (.bool false)], args := [d1, d2] }
  | _ => none }
def FnExactFirstPassingWrongFalsely : Prop := fnExactFirstPassingRow.holds Try.pinned (OpenSpec.ofChange fnExactFirstPassingWrong)

/-- 'laws.FnExactContainsEdit': WHATEVER THE INPUT: true; the input reads as it did. -/
def fnExactContainsEditSpec : ChangeSpec := { name := "fnExactContainsEdit", fn := fun _ => fun
  | [d1, d2, d3] => { results := [.lit (.bool true)], args := [d1, d2, d3] }
  | _ => none }
def fnExactContainsEditRow : OpenClaim := { program := "ytmbchahjgefbpaa", sum := "b4016a26685d2f2063be2f29cd1c54cfee61032eb51febd523e5dcef7996e50c", func := "loop.example/g00908/laws.FnExactContainsEdit", spec := "fnExactContainsEdit", apart := false }
def FnExactContainsEditSaid : Prop := fnExactContainsEditRow.holds Try.pinned (OpenSpec.ofChange fnExactContainsEditSpec)

/-- ITS FALSE NEIGHBOUR: 'it returns false'. Refute it at one input. -/
def fnExactContainsEditWrong : ChangeSpec := { name := "fnExactContainsEdit", fn := fun _ => fun
  | [d1, d2, d3] => { results := [.lit (.bool false)], args := [d1, d2, d3] }
  | _ => none }
def FnExactContainsEditWrongFalsely : Prop := fnExactContainsEditRow.holds Try.pinned (OpenSpec.ofChange fnExactContainsEditWrong)

/-- 'laws.FnExactMeetEdits': WHATEVER THE INPUT: true; the input reads as it did. -/
def fnExactMeetEditsSpec : ChangeSpec := { name := "fnExactMeetEdits", fn := fun _ => fun
  | [d1, d2, d3] => { results := [.lit (.bool true)], args := [d1, d2, d3] }
  | _ => none }
def fnExactMeetEditsRow : OpenClaim := { program := "ytmbchahjgefbpaa", sum := "b4016a26685d2f2063be2f29cd1c54cfee61032eb51febd523e5dcef7996e50c", func := "loop.example/g00908/laws.FnExactMeetEdits", spec := "fnExactMeetEdits", apart := false }
def FnExactMeetEditsSaid : Prop := fnExactMeetEditsRow.holds Try.pinned (OpenSpec.ofChange fnExactMeetEditsSpec)

/-- ITS FALSE NEIGHBOUR: 'it returns false'. Refute it at one input. -/
def fnExactMeetEditsWrong : ChangeSpec := { name := "fnExactMeetEdits", fn := fun _ => fun
  | [d1, d2, d3] => { results := [.lit (.bool false)], args := [d1, d2, d3] }
  | _ => none }
def FnExactMeetEditsWrongFalsely : Prop := fnExactMeetEditsRow.holds Try.pinned (OpenSpec.ofChange fnExactMeetEditsWrong)

/-- 'laws.FnExactFailureCounts': WHATEVER THE INPUT: true; the input reads as it did. -/
def fnExactFailureCountsSpec : ChangeSpec := { name := "fnExactFailureCounts", fn := fun _ => fun
  | [d1, d2, d3] => { results := [.lit (.bool true)], args := [d1, d2, d3] }
  | _ => none }
def fnExactFailureCountsRow : OpenClaim := { program := "ytmbchahjgefbpaa", sum := "b4016a26685d2f2063be2f29cd1c54cfee61032eb51febd523e5dcef7996e50c", func := "loop.example/g00908/laws.FnExactFailureCounts", spec := "fnExactFailureCounts", apart := false }
def FnExactFailureCountsSaid : Prop := fnExactFailureCountsRow.holds Try.pinned (OpenSpec.ofChange fnExactFailureCountsSpec)

/-- ITS FALSE NEIGHBOUR: 'it returns false'. Refute it at one input. -/
def fnExactFailureCountsWrong : ChangeSpec := { name := "fnExactFailureCounts", fn := fun _ => fun
  | [d1, d2, d3] => { results := [.lit (.bool false)], args := [d1, d2, d3] }
  | _ => none }
def FnExactFailureCountsWrongFalsely : Prop := fnExactFailureCountsRow.holds Try.pinned (OpenSpec.ofChange fnExactFailureCountsWrong)

/- THE SECOND FORM. 'bulk': how many values and letters a reading holds, each counted each time it is reached (what is shared counts as often as it is met; a slice's spare places count too). A statement '..UptoSaid' is the law's where the arguments, and the package variables that the reading takes, are together of bulk at most 1048576: NARROWER than '..Said'. Prove '..Said' where nothing that the law and all that it calls make is longer than what came in: it says more and counts as full. Else prove '..UptoSaid'. A law counts once. -/
mutual
def uptoBulk {H : Type} : DataW H → Nat
  | .lit (.string bytes) => bytes.length + 1
  | .lit _ => 1
  | .nil => 1
  | .ptr d => uptoBulk d + 1
  | .slice elems spare => uptoBulkAll elems + uptoBulkAll spare + 1
  | .agg parts => uptoBulkAll parts + 1
  | .iface _ d => uptoBulk d + 1
  | .map entries => uptoBulkEntries entries + 1
  | .held _ => 1
def uptoBulkAll {H : Type} : List (DataW H) → Nat
  | [] => 0
  | d :: r => uptoBulk d + uptoBulkAll r
def uptoBulkEntries {H : Type} : List (Lit × DataW H) → Nat
  | [] => 0
  | x :: r => uptoBulkEntry x + uptoBulkEntries r
def uptoBulkEntry {H : Type} : Lit × DataW H → Nat
  | (.string bytes, d) => bytes.length + uptoBulk d + 1
  | (_, d) => uptoBulk d + 1
 end
def uptoSmall : (H : Type) → List (DataW H) → Bool := fun _ ds => decide (uptoBulkAll ds ≤ 1048576)
def OpenSpec.upto (s : _root_.Go.ChangeSpec) : _root_.Go.OpenSpec := { _root_.Go.OpenSpec.ofChange s with cond := some uptoSmall }

/-- 'laws.FnExactIsEdit', WHERE WHAT IT READS IS OF BULK AT MOST 1048576: true; the input reads as it did. -/
def fnExactIsEditUptoRow : OpenClaim := { program := "ytmbchahjgefbpaa", sum := "b4016a26685d2f2063be2f29cd1c54cfee61032eb51febd523e5dcef7996e50c", func := "loop.example/g00908/laws.FnExactIsEdit", spec := "fnExactIsEdit", apart := false, narrowed := true }
def FnExactIsEditUptoSaid : Prop := fnExactIsEditUptoRow.holds Try.pinned (OpenSpec.upto fnExactIsEditSpec)

/-- 'laws.FnExactFailsEdit', WHERE WHAT IT READS IS OF BULK AT MOST 1048576: true; the input reads as it did. -/
def fnExactFailsEditUptoRow : OpenClaim := { program := "ytmbchahjgefbpaa", sum := "b4016a26685d2f2063be2f29cd1c54cfee61032eb51febd523e5dcef7996e50c", func := "loop.example/g00908/laws.FnExactFailsEdit", spec := "fnExactFailsEdit", apart := false, narrowed := true }
def FnExactFailsEditUptoSaid : Prop := fnExactFailsEditUptoRow.holds Try.pinned (OpenSpec.upto fnExactFailsEditSpec)

/-- 'laws.FnExactFailedEdits', WHERE WHAT IT READS IS OF BULK AT MOST 1048576: true; the input reads as it did. -/
def fnExactFailedEditsUptoRow : OpenClaim := { program := "ytmbchahjgefbpaa", sum := "b4016a26685d2f2063be2f29cd1c54cfee61032eb51febd523e5dcef7996e50c", func := "loop.example/g00908/laws.FnExactFailedEdits", spec := "fnExactFailedEdits", apart := false, narrowed := true }
def FnExactFailedEditsUptoSaid : Prop := fnExactFailedEditsUptoRow.holds Try.pinned (OpenSpec.upto fnExactFailedEditsSpec)

/-- 'laws.FnExactInvolvedIn', WHERE WHAT IT READS IS OF BULK AT MOST 1048576: true; the input reads as it did. -/
def fnExactInvolvedInUptoRow : OpenClaim := { program := "ytmbchahjgefbpaa", sum := "b4016a26685d2f2063be2f29cd1c54cfee61032eb51febd523e5dcef7996e50c", func := "loop.example/g00908/laws.FnExactInvolvedIn", spec := "fnExactInvolvedIn", apart := false, narrowed := true }
def FnExactInvolvedInUptoSaid : Prop := fnExactInvolvedInUptoRow.holds Try.pinned (OpenSpec.upto fnExactInvolvedInSpec)

/-- 'laws.FnExactCountFailing', WHERE WHAT IT READS IS OF BULK AT MOST 1048576: true; the input reads as it did. -/
def fnExactCountFailingUptoRow : OpenClaim := { program := "ytmbchahjgefbpaa", sum := "b4016a26685d2f2063be2f29cd1c54cfee61032eb51febd523e5dcef7996e50c", func := "loop.example/g00908/laws.FnExactCountFailing", spec := "fnExactCountFailing", apart := false, narrowed := true }
def FnExactCountFailingUptoSaid : Prop := fnExactCountFailingUptoRow.holds Try.pinned (OpenSpec.upto fnExactCountFailingSpec)

/-- 'laws.FnExactCountPassing', WHERE WHAT IT READS IS OF BULK AT MOST 1048576: true; the input reads as it did. -/
def fnExactCountPassingUptoRow : OpenClaim := { program := "ytmbchahjgefbpaa", sum := "b4016a26685d2f2063be2f29cd1c54cfee61032eb51febd523e5dcef7996e50c", func := "loop.example/g00908/laws.FnExactCountPassing", spec := "fnExactCountPassing", unfollowed := true, recurses := true, apart := false, narrowed := true }
def FnExactCountPassingUptoSaid : Prop := fnExactCountPassingUptoRow.holds Try.pinned (OpenSpec.upto fnExactCountPassingSpec)

/-- 'laws.FnExactFirstPassing', WHERE WHAT IT READS IS OF BULK AT MOST 1048576: true; the input reads as it did. -/
def fnExactFirstPassingUptoRow : OpenClaim := { program := "ytmbchahjgefbpaa", sum := "b4016a26685d2f2063be2f29cd1c54cfee61032eb51febd523e5dcef7996e50c", func := "loop.example/g00908/laws.FnExactFirstPassing", spec := "fnExactFirstPassing", unfollowed := true, recurses := true, apart := false, narrowed := true }
def FnExactFirstPassingUptoSaid : Prop := fnExactFirstPassingUptoRow.holds Try.pinned (OpenSpec.upto fnExactFirstPassingSpec)

/-- 'laws.FnExactContainsEdit', WHERE WHAT IT READS IS OF BULK AT MOST 1048576: true; the input reads as it did. -/
def fnExactContainsEditUptoRow : OpenClaim := { program := "ytmbchahjgefbpaa", sum := "b4016a26685d2f2063be2f29cd1c54cfee61032eb51febd523e5dcef7996e50c", func := "loop.example/g00908/laws.FnExactContainsEdit", spec := "fnExactContainsEdit", apart := false, narrowed := true }
def FnExactContainsEditUptoSaid : Prop := fnExactContainsEditUptoRow.holds Try.pinned (OpenSpec.upto fnExactContainsEditSpec)

/-- 'laws.FnExactMeetEdits', WHERE WHAT IT READS IS OF BULK AT MOST 1048576: true; the input reads as it did. -/
def fnExactMeetEditsUptoRow : OpenClaim := { program := "ytmbchahjgefbpaa", sum := "b4016a26685d2f2063be2f29cd1c54cfee61032eb51febd523e5dcef7996e50c", func := "loop.example/g00908/laws.FnExactMeetEdits", spec := "fnExactMeetEdits", apart := false, narrowed := true }
def FnExactMeetEditsUptoSaid : Prop := fnExactMeetEditsUptoRow.holds Try.pinned (OpenSpec.upto fnExactMeetEditsSpec)

/-- 'laws.FnExactFailureCounts', WHERE WHAT IT READS IS OF BULK AT MOST 1048576: true; the input reads as it did. -/
def fnExactFailureCountsUptoRow : OpenClaim := { program := "ytmbchahjgefbpaa", sum := "b4016a26685d2f2063be2f29cd1c54cfee61032eb51febd523e5dcef7996e50c", func := "loop.example/g00908/laws.FnExactFailureCounts", spec := "fnExactFailureCounts", apart := false, narrowed := true }
def FnExactFailureCountsUptoSaid : Prop := fnExactFailureCountsUptoRow.holds Try.pinned (OpenSpec.upto fnExactFailureCountsSpec)

end Rows
end Go.Proofs.Ytmbchahjgefbpaa
