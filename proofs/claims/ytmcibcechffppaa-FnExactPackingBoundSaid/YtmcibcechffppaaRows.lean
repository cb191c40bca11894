/-
  No cell of these rows narrows 'for every input' (looked for: loops, veiled, ifaces, maps, wideKeys, modest, calm, conditions, laid).
  DERIVED. THE GIVEN ROWS OF THIS SEAT. 7 by the template 'for every input the law returns true; each argument reads behind the call as it read before'; 0 by the template 'total and deterministic' (their statements: YtmcibcechffppaaTotals.lean).
  GIVEN WITH THE SEED: the statements are not yours to turn. If you find one false, say at which input.
  Laid BY PROGRAM, IN A SANDBOX (cutbox-rows.mjs): the forced cells as the released guide's own fill.sh prints them over the translation c88a3c8083813b76… (all of the seat's roots in one cut). By AI agents, Wed Nov 11 2026. No macro, syntax, notation, axiom, sorry.
-/
import Derived.Test.YtmcibcechffppaaChecked
import GoSem.Claim
import GoSem.ClaimJoined
import GoSem.ClaimMapViews
import Derived.JoinedTies
import Derived.KernelRfl
namespace Go.Proofs.Ytmcibcechffppaa
/- THE CELL 'sum', in the pinned program and in every row, IS THE sha256 OF THE DUMP (.gsa) THAT YtmcibcechffppaaProg.lean LOADS. Nothing in Lean hashes anything: it is a label: what it is worth is what the hold of that sum in a sandbox is worth. -/
noncomputable def Try.pinned : Pinned := { name := "ytmcibcechffppaa", sum := "c88a3c8083813b7692e562f63a9988950de97a51cafa5e5f25a8f07368661a97", checked := Try.checked }
namespace Rows
def none {H : Type} : Left H := { results := [], args := [] }

/-- 'laws.FnExactWithoutContained': WHATEVER THE INPUT: true; the input reads as it did. -/
def fnExactWithoutContainedSpec : ChangeSpec := { name := "fnExactWithoutContained", fn := fun _ => fun
  | [d1, d2] => { results := [.lit (.bool true)], args := [d1, d2] }
  | _ => none }
def fnExactWithoutContainedRow : OpenClaim := { program := "ytmcibcechffppaa", sum := "c88a3c8083813b7692e562f63a9988950de97a51cafa5e5f25a8f07368661a97", func := "loop.example/g00908/laws.FnExactWithoutContained", spec := "fnExactWithoutContained", unfollowed := true, recurses := true, apart := false }
def FnExactWithoutContainedSaid : Prop := fnExactWithoutContainedRow.holds Try.pinned (OpenSpec.ofChange fnExactWithoutContainedSpec)

/-- ITS FALSE NEIGHBOUR: 'it returns false'. Refute it at one input. -/
def fnExactWithoutContainedWrong : ChangeSpec := { name := "fnExactWithoutContained", fn := fun _ => fun
  | [d1, d2] => { results := [.lit (.bool false)], args := [d1, d2] }
  | _ => none }
def FnExactWithoutContainedWrongFalsely : Prop := fnExactWithoutContainedRow.holds Try.pinned (OpenSpec.ofChange fnExactWithoutContainedWrong)

/-- 'laws.FnExactMaximalEdits': WHATEVER THE INPUT: true; the input reads as it did. -/
def fnExactMaximalEditsSpec : ChangeSpec := { name := "fnExactMaximalEdits", fn := fun _ => fun
  | [d1, d2] => { results := [.lit (.bool true)], args := [d1, d2] }
  | _ => none }
def fnExactMaximalEditsRow : OpenClaim := { program := "ytmcibcechffppaa", sum := "c88a3c8083813b7692e562f63a9988950de97a51cafa5e5f25a8f07368661a97", func := "loop.example/g00908/laws.FnExactMaximalEdits", spec := "fnExactMaximalEdits", unfollowed := true, recurses := true, apart := false }
def FnExactMaximalEditsSaid : Prop := fnExactMaximalEditsRow.holds Try.pinned (OpenSpec.ofChange fnExactMaximalEditsSpec)

/-- ITS FALSE NEIGHBOUR: 'it returns false'. Refute it at one input. -/
def fnExactMaximalEditsWrong : ChangeSpec := { name := "fnExactMaximalEdits", fn := fun _ => fun
  | [d1, d2] => { results := [.lit (.bool false)], args := [d1, d2] }
  | _ => none }
def FnExactMaximalEditsWrongFalsely : Prop := fnExactMaximalEditsRow.holds Try.pinned (OpenSpec.ofChange fnExactMaximalEditsWrong)

/-- 'laws.FnExactEliminateVariable': WHATEVER THE INPUT: true; the input reads as it did. -/
def fnExactEliminateVariableSpec : ChangeSpec := { name := "fnExactEliminateVariable", fn := fun _ => fun
  | [d1, d2, d3] => { results := [.lit (.bool true)], args := [d1, d2, d3] }
  | _ => none }
def fnExactEliminateVariableRow : OpenClaim := { program := "ytmcibcechffppaa", sum := "c88a3c8083813b7692e562f63a9988950de97a51cafa5e5f25a8f07368661a97", func := "loop.example/g00908/laws.FnExactEliminateVariable", spec := "fnExactEliminateVariable", unfollowed := true, recurses := true, apart := false }
def FnExactEliminateVariableSaid : Prop := fnExactEliminateVariableRow.holds Try.pinned (OpenSpec.ofChange fnExactEliminateVariableSpec)

/-- ITS FALSE NEIGHBOUR: 'it returns false'. Refute it at one input. -/
def fnExactEliminateVariableWrong : ChangeSpec := { name := "fnExactEliminateVariable", fn := fun _ => fun
  | [d1, d2, d3] => { results := [.lit (.bool false)], args := [d1, d2, d3] }
  | _ => none }
def FnExactEliminateVariableWrongFalsely : Prop := fnExactEliminateVariableRow.holds Try.pinned (OpenSpec.ofChange fnExactEliminateVariableWrong)

/-- 'laws.FnExactEditsOnly': WHATEVER THE INPUT: true; the input reads as it did. -/
def fnExactEditsOnlySpec : ChangeSpec := { name := "fnExactEditsOnly", fn := fun _ => fun
  | [d1, d2, d3] => { results := [.lit (.bool true)], args := [d1, d2, d3] }
  | _ => none }
def fnExactEditsOnlyRow : OpenClaim := { program := "ytmcibcechffppaa", sum := "c88a3c8083813b7692e562f63a9988950de97a51cafa5e5f25a8f07368661a97", func := "loop.example/g00908/laws.FnExactEditsOnly", spec := "fnExactEditsOnly", unfollowed := true, recurses := true, apart := false }
def FnExactEditsOnlySaid : Prop := fnExactEditsOnlyRow.holds Try.pinned (OpenSpec.ofChange fnExactEditsOnlySpec)

/-- ITS FALSE NEIGHBOUR: 'it returns false'. Refute it at one input. -/
def fnExactEditsOnlyWrong : ChangeSpec := { name := "fnExactEditsOnly", fn := fun _ => fun
  | [d1, d2, d3] => { results := [.lit (.bool false)], args := [d1, d2, d3] }
  | _ => none }
def FnExactEditsOnlyWrongFalsely : Prop := fnExactEditsOnlyRow.holds Try.pinned (OpenSpec.ofChange fnExactEditsOnlyWrong)

/-- 'laws.FnExactIsCover': WHATEVER THE INPUT: true; the input reads as it did. -/
def fnExactIsCoverSpec : ChangeSpec := { name := "fnExactIsCover", fn := fun _ => fun
  | [d1, d2, d3, d4] => { results := [.lit (.bool true)], args := [d1, d2, d3, d4] }
  | _ => none }
def fnExactIsCoverRow : OpenClaim := { program := "ytmcibcechffppaa", sum := "c88a3c8083813b7692e562f63a9988950de97a51cafa5e5f25a8f07368661a97", func := "loop.example/g00908/laws.FnExactIsCover", spec := "fnExactIsCover", unfollowed := true, recurses := true, apart := false }
def FnExactIsCoverSaid : Prop := fnExactIsCoverRow.holds Try.pinned (OpenSpec.ofChange fnExactIsCoverSpec)

/-- ITS FALSE NEIGHBOUR: 'it returns false'. Refute it at one input. -/
def fnExactIsCoverWrong : ChangeSpec := { name := "fnExactIsCover", fn := fun _ => fun
  | [d1, d2, d3, d4] => { results := [.lit (.bool false)], args := [d1, d2, d3, d4] }
  | _ => none }
def FnExactIsCoverWrongFalsely : Prop := fnExactIsCoverRow.holds Try.pinned (OpenSpec.ofChange fnExactIsCoverWrong)

/-- 'laws.FnExactIsMend': WHATEVER THE INPUT: true; the input reads as it did. -/
def fnExactIsMendSpec : ChangeSpec := { name := "fnExactIsMend", fn := fun _ => fun
  | [d1, d2, d3, d4, d5] => { results := [.lit (.bool true)], args := [d1, d2, d3, d4, d5] }
  | _ => none }
def fnExactIsMendRow : OpenClaim := { program := "ytmcibcechffppaa", sum := "c88a3c8083813b7692e562f63a9988950de97a51cafa5e5f25a8f07368661a97", func := "loop.example/g00908/laws.FnExactIsMend", spec := "fnExactIsMend", apart := false }
def FnExactIsMendSaid : Prop := fnExactIsMendRow.holds Try.pinned (OpenSpec.ofChange fnExactIsMendSpec)

/-- ITS FALSE NEIGHBOUR: 'it returns false'. Refute it at one input. -/
def fnExactIsMendWrong : ChangeSpec := { name := "fnExactIsMend", fn := fun _ => fun
  | [d1, d2, d3, d4, d5] => { results := [.lit (.bool false)], args := [d1, d2, d3, d4, d5] }
  | _ => none }
def FnExactIsMendWrongFalsely : Prop := fnExactIsMendRow.holds Try.pinned (OpenSpec.ofChange fnExactIsMendWrong)

/-- 'laws.FnExactPackingBound': WHATEVER THE INPUT: true; the input reads as it did. -/
def fnExactPackingBoundSpec : ChangeSpec := { name := "fnExactPackingBound", fn := fun _ => fun
  | [d1, d2, d3, d4] => { results := [.lit (.bool true)], args := [d1, d2, d3, d4] }
  | _ => none }
def fnExactPackingBoundRow : OpenClaim := { program := "ytmcibcechffppaa", sum := "c88a3c8083813b7692e562f63a9988950de97a51cafa5e5f25a8f07368661a97", func := "loop.example/g00908/laws.FnExactPackingBound", spec := "fnExactPackingBound", unfollowed := true, recurses := true, apart := false }
def FnExactPackingBoundSaid : Prop := fnExactPackingBoundRow.holds Try.pinned (OpenSpec.ofChange fnExactPackingBoundSpec)

/-- ITS FALSE NEIGHBOUR: 'it returns false'. Refute it at one input. -/
def fnExactPackingBoundWrong : ChangeSpec := { name := "fnExactPackingBound", fn := fun _ => fun
  | [d1, d2, d3, d4] => { results := [.lit (.bool false)], args := [d1, d2, d3, d4] }
  | _ => none }
def FnExactPackingBoundWrongFalsely : Prop := fnExactPackingBoundRow.holds Try.pinned (OpenSpec.ofChange fnExactPackingBoundWrong)

/- THE SECOND FORM. 'bulk': how many values and letters a reading holds, each counted each time it is reached (what is shared counts as often as it is met; a slice's spare places count too). A statement '..UptoSaid' is the law's where the arguments, and the package variables that the reading takes, are together of bulk at most 1048576: NARROWER than '..Said'. Prove '..Said' where nothing that the law and all that it calls make is longer than what came in: it says more and counts as full. Else prove '..UptoSaid'. A law counts once. -/
mutual
def uptoBulk {H : Type} : DataW H → Nat
  | .lit (.string bytes) => bytes.length + 1
  | .lit _ => 1
  | .nil => 1
  | .ptr d => uptoBulk d + 1
  | .slice elems spare => uptoBulkAll elems + uptoBulkAll spare + 1
  | .agg parts => uptoBulkAll parts + 1
  | .iface _ d => uptoBulk d + 1
  | .map entries => uptoBulkEntries entries + 1
  | .held _ => 1
def uptoBulkAll {H : Type} : List (DataW H) → Nat
  | [] => 0
  | d :: r => uptoBulk d + uptoBulkAll r
def uptoBulkEntries {H : Type} : List (Lit × DataW H) → Nat
  | [] => 0
  | x :: r => uptoBulkEntry x + uptoBulkEntries r
def uptoBulkEntry {H : Type} : Lit × DataW H → Nat
  | (.string bytes, d) => bytes.length + uptoBulk d + 1
  | (_, d) => uptoBulk d + 1
 end
def uptoSmall : (H : Type) → List (DataW H) → Bool := fun _ ds => decide (uptoBulkAll ds ≤ 1048576)
def OpenSpec.upto (s : _root_.Go.ChangeSpec) : _root_.Go.OpenSpec := { _root_.Go.OpenSpec.ofChange s with cond := some uptoSmall }

/-- 'laws.FnExactWithoutContained', WHERE WHAT IT READS IS OF BULK AT MOST 1048576: true; the input reads as it did. -/
def fnExactWithoutContainedUptoRow : OpenClaim := { program := "ytmcibcechffppaa", sum := "c88a3c8083813b7692e562f63a9988950de97a51cafa5e5f25a8f07368661a97", func := "loop.example/g00908/laws.FnExactWithoutContained", spec := "fnExactWithoutContained", unfollowed := true, recurses := true, apart := false, narrowed := true }
def FnExactWithoutContainedUptoSaid : Prop := fnExactWithoutContainedUptoRow.holds Try.pinned (OpenSpec.upto fnExactWithoutContainedSpec)

/-- 'laws.FnExactMaximalEdits', WHERE WHAT IT READS IS OF BULK AT MOST 1048576: true; the input reads as it did. -/
def fnExactMaximalEditsUptoRow : OpenClaim := { program := "ytmcibcechffppaa", sum := "c88a3c8083813b7692e562f63a9988950de97a51cafa5e5f25a8f07368661a97", func := "loop.example/g00908/laws.FnExactMaximalEdits", spec := "fnExactMaximalEdits", unfollowed := true, recurses := true, apart := false, narrowed := true }
def FnExactMaximalEditsUptoSaid : Prop := fnExactMaximalEditsUptoRow.holds Try.pinned (OpenSpec.upto fnExactMaximalEditsSpec)

/-- 'laws.FnExactEliminateVariable', WHERE WHAT IT READS IS OF BULK AT MOST 1048576: true; the input reads as it did. -/
def fnExactEliminateVariableUptoRow : OpenClaim := { program := "ytmcibcechffppaa", sum := "c88a3c8083813b7692e562f63a9988950de97a51cafa5e5f25a8f07368661a97", func := "loop.example/g00908/laws.FnExactEliminateVariable", spec := "fnExactEliminateVariable", unfollowed := true, recurses := true, apart := false, narrowed := true }
def FnExactEliminateVariableUptoSaid : Prop := fnExactEliminateVariableUptoRow.holds Try.pinned (OpenSpec.upto fnExactEliminateVariableSpec)

/-- 'laws.FnExactEditsOnly', WHERE WHAT IT READS IS OF BULK AT MOST 1048576: true; the input reads as it did. -/
def fnExactEditsOnlyUptoRow : OpenClaim := { program := "ytmcibcechffppaa", sum := "c88a3c8083813b7692e562f63a9988950de97a51cafa5e5f25a8f07368661a97", func := "loop.example/g00908/laws.FnExactEditsOnly", spec := "fnExactEditsOnly", unfollowed := true, recurses := true, apart := false, narrowed := true }
def FnExactEditsOnlyUptoSaid : Prop := fnExactEditsOnlyUptoRow.holds Try.pinned (OpenSpec.upto fnExactEditsOnlySpec)

/-- 'laws.FnExactIsCover', WHERE WHAT IT READS IS OF BULK AT MOST 1048576: true; the input reads as it did. -/
def fnExactIsCoverUptoRow : OpenClaim := { program := "ytmcibcechffppaa", sum := "c88a3c8083813b7692e562f63a9988950de97a51cafa5e5f25a8f07368661a97", func := "loop.example/g00908/laws.FnExactIsCover", spec := "fnExactIsCover", unfollowed := true, recurses := true, apart := false, narrowed := true }
def FnExactIsCoverUptoSaid : Prop := fnExactIsCoverUptoRow.holds Try.pinned (OpenSpec.upto fnExactIsCoverSpec)

/-- 'laws.FnExactIsMend', WHERE WHAT IT READS IS OF BULK AT MOST 1048576: true; the input reads as it did. -/
def fnExactIsMendUptoRow : OpenClaim := { program := "ytmcibcechffppaa", sum := "c88a3c8083813b7692e562f63a9988950de97a51cafa5e5f25a8f07368661a97", func := "loop.example/g00908/laws.FnExactIsMend", spec := "fnExactIsMend", apart := false, narrowed := true }
def FnExactIsMendUptoSaid : Prop := fnExactIsMendUptoRow.holds Try.pinned (OpenSpec.upto fnExactIsMendSpec)

/-- 'laws.FnExactPackingBound', WHERE WHAT IT READS IS OF BULK AT MOST 1048576: true; the input reads as it did. -/
def fnExactPackingBoundUptoRow : OpenClaim := { program := "ytmcibcechffppaa", sum := "c88a3c8083813b7692e562f63a9988950de97a51cafa5e5f25a8f07368661a97", func := "loop.example/g00908/laws.FnExactPackingBound", spec := "fnExactPackingBound", unfollowed := true, recurses := true, apart := false, narrowed := true }
def FnExactPackingBoundUptoSaid : Prop := fnExactPackingBoundUptoRow.holds Try.pinned (OpenSpec.upto fnExactPackingBoundSpec)

end Rows
end Go.Proofs.Ytmcibcechffppaa
