/-
  No cell of these rows narrows 'for every input' (looked for: loops, veiled, ifaces, maps, wideKeys, modest, calm, conditions, laid).
  DERIVED. THE GIVEN ROWS OF THIS SEAT. 8 by the template 'for every input the law returns true; each argument reads behind the call as it read before'; 0 by the template 'total and deterministic' (their statements: YtpmbenedeakieaaTotals.lean).
  GIVEN WITH THE SEED: the statements are not yours to turn. If you find one false, say at which input.
  Laid BY PROGRAM, IN A SANDBOX (cutbox-rows.mjs): the forced cells as the released guide's own fill.sh prints them over the translation 21e362c99be675a2… (all of the seat's roots in one cut). By AI agents, Wed Nov 11 2026. No macro, syntax, notation, axiom, sorry.
-/
import Derived.Test.YtpmbenedeakieaaChecked
import GoSem.Claim
import GoSem.ClaimJoined
import GoSem.ClaimMapViews
import Derived.JoinedTies
import Derived.KernelRfl
namespace Go.Proofs.Ytpmbenedeakieaa
/- THE CELL 'sum', in the pinned program and in every row, IS THE sha256 OF THE DUMP (.gsa) THAT YtpmbenedeakieaaProg.lean LOADS. Nothing in Lean hashes anything: it is a label: what it is worth is what the hold of that sum in a sandbox is worth. -/
noncomputable def Try.pinned : Pinned := { name := "ytpmbenedeakieaa", sum := "21e362c99be675a2dd3af9001618d522b680b0d084e674239515d250ca9892b5", checked := Try.checked }
namespace Rows
def none {H : Type} : Left H := { results := [], args := [] }

/-- 'laws.FnExactIsTable': WHATEVER THE INPUT: true; the input reads as it did. -/
def fnExactIsTableSpec : ChangeSpec := { name := "fnExactIsTable", fn := fun _ => fun
  | [d1, d2, d3] => { results := [.lit (.bool true)], args := [d1, d2, d3] }
  | _ => none }
def fnExactIsTableRow : OpenClaim := { program := "ytpmbenedeakieaa", sum := "21e362c99be675a2dd3af9001618d522b680b0d084e674239515d250ca9892b5", func := "loop.example/g00908/laws.FnExactIsTable", spec := "fnExactIsTable", unfollowed := true, recurses := true, apart := false }
def FnExactIsTableSaid : Prop := fnExactIsTableRow.holds Try.pinned (OpenSpec.ofChange fnExactIsTableSpec)

/-- ITS FALSE NEIGHBOUR: 'it returns false'. Refute it at one input. -/
def fnExactIsTableWrong : ChangeSpec := { name := "fnExactIsTable", fn := fun _ => fun
  | [d1, d2, d3] => { results := [.lit (.bool false)], args := [d1, d2, d3] }
  | _ => none }
def FnExactIsTableWrongFalsely : Prop := fnExactIsTableRow.holds Try.pinned (OpenSpec.ofChange fnExactIsTableWrong)

/-- 'laws.FnExactCellAt': WHATEVER THE INPUT: true; the input reads as it did. -/
def fnExactCellAtSpec : ChangeSpec := { name := "fnExactCellAt", fn := fun _ => fun
  | [d1, d2, d3, d4] => { results := [.lit (.bool true)], args := [d1, d2, d3, d4] }
  | _ => none }
def fnExactCellAtRow : OpenClaim := { program := "ytpmbenedeakieaa", sum := "21e362c99be675a2dd3af9001618d522b680b0d084e674239515d250ca9892b5", func := "loop.example/g00908/laws.FnExactCellAt", spec := "fnExactCellAt", unfollowed := true, recurses := true, apart := false }
def FnExactCellAtSaid : Prop := fnExactCellAtRow.holds Try.pinned (OpenSpec.ofChange fnExactCellAtSpec)

/-- ITS FALSE NEIGHBOUR: 'it returns false'. Refute it at one input. -/
def fnExactCellAtWrong : ChangeSpec := { name := "fnExactCellAt", fn := fun _ => fun
  | [d1, d2, d3, d4] => { results := [.lit (.bool false)], args := [d1, d2, d3, d4] }
  | _ => none }
def FnExactCellAtWrongFalsely : Prop := fnExactCellAtRow.holds Try.pinned (OpenSpec.ofChange fnExactCellAtWrong)

/-- 'laws.FnExactSensitivityOf': WHATEVER THE INPUT: true; the input reads as it did. -/
def fnExactSensitivityOfSpec : ChangeSpec := { name := "fnExactSensitivityOf", fn := fun _ => fun
  | [d1, d2, d3] => { results := [.lit (.bool true)], args := [d1, d2, d3] }
  | _ => none }
def fnExactSensitivityOfRow : OpenClaim := { program := "ytpmbenedeakieaa", sum := "21e362c99be675a2dd3af9001618d522b680b0d084e674239515d250ca9892b5", func := "loop.example/g00908/laws.FnExactSensitivityOf", spec := "fnExactSensitivityOf", unfollowed := true, recurses := true, apart := false }
def FnExactSensitivityOfSaid : Prop := fnExactSensitivityOfRow.holds Try.pinned (OpenSpec.ofChange fnExactSensitivityOfSpec)

/-- ITS FALSE NEIGHBOUR: 'it returns false'. Refute it at one input. -/
def fnExactSensitivityOfWrong : ChangeSpec := { name := "fnExactSensitivityOf", fn := fun _ => fun
  | [d1, d2, d3] => { results := [.lit (.bool false)], args := [d1, d2, d3] }
  | _ => none }
def FnExactSensitivityOfWrongFalsely : Prop := fnExactSensitivityOfRow.holds Try.pinned (OpenSpec.ofChange fnExactSensitivityOfWrong)

/-- 'laws.FnExactTableOf': WHATEVER THE INPUT: true; the input reads as it did. -/
def fnExactTableOfSpec : ChangeSpec := { name := "fnExactTableOf", fn := fun _ => fun
  | [d1, d2, d3, d4] => { results := [.lit (.bool true)], args := [d1, d2, d3, d4] }
  | _ => none }
def fnExactTableOfRow : OpenClaim := { program := "ytpmbenedeakieaa", sum := "21e362c99be675a2dd3af9001618d522b680b0d084e674239515d250ca9892b5", func := "loop.example/g00908/laws.FnExactTableOf", spec := "fnExactTableOf", unfollowed := true, recurses := true, apart := false }
def FnExactTableOfSaid : Prop := fnExactTableOfRow.holds Try.pinned (OpenSpec.ofChange fnExactTableOfSpec)

/-- ITS FALSE NEIGHBOUR: 'it returns false'. Refute it at one input. -/
def fnExactTableOfWrong : ChangeSpec := { name := "fnExactTableOf", fn := fun _ => fun
  | [d1, d2, d3, d4] => { results := [.lit (.bool false)], args := [d1, d2, d3, d4] }
  | _ => none }
def FnExactTableOfWrongFalsely : Prop := fnExactTableOfRow.holds Try.pinned (OpenSpec.ofChange fnExactTableOfWrong)

/-- 'laws.FnExactNormalTable': WHATEVER THE INPUT: true; the input reads as it did. -/
def fnExactNormalTableSpec : ChangeSpec := { name := "fnExactNormalTable", fn := fun _ => fun
  | [d1, d2, d3] => { results := [.lit (.bool true)], args := [d1, d2, d3] }
  | _ => none }
def fnExactNormalTableRow : OpenClaim := { program := "ytpmbenedeakieaa", sum := "21e362c99be675a2dd3af9001618d522b680b0d084e674239515d250ca9892b5", func := "loop.example/g00908/laws.FnExactNormalTable", spec := "fnExactNormalTable", unfollowed := true, recurses := true, apart := false }
def FnExactNormalTableSaid : Prop := fnExactNormalTableRow.holds Try.pinned (OpenSpec.ofChange fnExactNormalTableSpec)

/-- ITS FALSE NEIGHBOUR: 'it returns false'. Refute it at one input. -/
def fnExactNormalTableWrong : ChangeSpec := { name := "fnExactNormalTable", fn := fun _ => fun
  | [d1, d2, d3] => { results := [.lit (.bool false)], args := [d1, d2, d3] }
  | _ => none }
def FnExactNormalTableWrongFalsely : Prop := fnExactNormalTableRow.holds Try.pinned (OpenSpec.ofChange fnExactNormalTableWrong)

/-- 'laws.FnExactSameMeaning': WHATEVER THE INPUT: true; the input reads as it did. -/
def fnExactSameMeaningSpec : ChangeSpec := { name := "fnExactSameMeaning", fn := fun _ => fun
  | [d1, d2, d3, d4] => { results := [.lit (.bool true)], args := [d1, d2, d3, d4] }
  | _ => none }
def fnExactSameMeaningRow : OpenClaim := { program := "ytpmbenedeakieaa", sum := "21e362c99be675a2dd3af9001618d522b680b0d084e674239515d250ca9892b5", func := "loop.example/g00908/laws.FnExactSameMeaning", spec := "fnExactSameMeaning", unfollowed := true, recurses := true, apart := false }
def FnExactSameMeaningSaid : Prop := fnExactSameMeaningRow.holds Try.pinned (OpenSpec.ofChange fnExactSameMeaningSpec)

/-- ITS FALSE NEIGHBOUR: 'it returns false'. Refute it at one input. -/
def fnExactSameMeaningWrong : ChangeSpec := { name := "fnExactSameMeaning", fn := fun _ => fun
  | [d1, d2, d3, d4] => { results := [.lit (.bool false)], args := [d1, d2, d3, d4] }
  | _ => none }
def FnExactSameMeaningWrongFalsely : Prop := fnExactSameMeaningRow.holds Try.pinned (OpenSpec.ofChange fnExactSameMeaningWrong)

/-- 'laws.FnExactMergePlans': WHATEVER THE INPUT: true; the input reads as it did. -/
def fnExactMergePlansSpec : ChangeSpec := { name := "fnExactMergePlans", fn := fun _ => fun
  | [d1, d2, d3, d4] => { results := [.lit (.bool true)], args := [d1, d2, d3, d4] }
  | _ => none }
def fnExactMergePlansRow : OpenClaim := { program := "ytpmbenedeakieaa", sum := "21e362c99be675a2dd3af9001618d522b680b0d084e674239515d250ca9892b5", func := "loop.example/g00908/laws.FnExactMergePlans", spec := "fnExactMergePlans", unfollowed := true, recurses := true, apart := false }
def FnExactMergePlansSaid : Prop := fnExactMergePlansRow.holds Try.pinned (OpenSpec.ofChange fnExactMergePlansSpec)

/-- ITS FALSE NEIGHBOUR: 'it returns false'. Refute it at one input. -/
def fnExactMergePlansWrong : ChangeSpec := { name := "fnExactMergePlans", fn := fun _ => fun
  | [d1, d2, d3, d4] => { results := [.lit (.bool false)], args := [d1, d2, d3, d4] }
  | _ => none }
def FnExactMergePlansWrongFalsely : Prop := fnExactMergePlansRow.holds Try.pinned (OpenSpec.ofChange fnExactMergePlansWrong)

/-- 'laws.FnCellRecords': WHATEVER THE INPUT: true; the input reads as it did. -/
def fnCellRecordsSpec : ChangeSpec := { name := "fnCellRecords", fn := fun _ => fun
  | [d1, d2] => { results := [.lit (.bool true)], args := [d1, d2] }
  | _ => none }
def fnCellRecordsRow : OpenClaim := { program := "ytpmbenedeakieaa", sum := "21e362c99be675a2dd3af9001618d522b680b0d084e674239515d250ca9892b5", func := "loop.example/g00908/laws.FnCellRecords", spec := "fnCellRecords", unfollowed := true, recurses := true, apart := false }
def FnCellRecordsSaid : Prop := fnCellRecordsRow.holds Try.pinned (OpenSpec.ofChange fnCellRecordsSpec)

/-- ITS FALSE NEIGHBOUR: 'it returns false'. Refute it at one input. -/
def fnCellRecordsWrong : ChangeSpec := { name := "fnCellRecords", fn := fun _ => fun
  | [d1, d2] => { results := [.lit (.bool false)], args := [d1, d2] }
  | _ => none }
def FnCellRecordsWrongFalsely : Prop := fnCellRecordsRow.holds Try.pinned (OpenSpec.ofChange fnCellRecordsWrong)

/- THE SECOND FORM. 'bulk': how many values and letters a reading holds, each counted each time it is reached (what is shared counts as often as it is met; a slice's spare places count too). A statement '..UptoSaid' is the law's where the arguments, and the package variables that the reading takes, are together of bulk at most 1048576: NARROWER than '..Said'. Prove '..Said' where nothing that the law and all that it calls make is longer than what came in: it says more and counts as full. Else prove '..UptoSaid'. A law counts once. -/
mutual
def uptoBulk {H : Type} : DataW H → Nat
  | .lit (.string bytes) => bytes.length + 1
  | .lit _ => 1
  | .nil => 1
  | .ptr d => uptoBulk d + 1
  | .slice elems spare => uptoBulkAll elems + uptoBulkAll spare + 1
  | .agg parts => uptoBulkAll parts + 1
  | .iface _ d => uptoBulk d + 1
  | .map entries => uptoBulkEntries entries + 1
  | .held _ => 1
def uptoBulkAll {H : Type} : List (DataW H) → Nat
  | [] => 0
  | d :: r => uptoBulk d + uptoBulkAll r
def uptoBulkEntries {H : Type} : List (Lit × DataW H) → Nat
  | [] => 0
  | x :: r => uptoBulkEntry x + uptoBulkEntries r
def uptoBulkEntry {H : Type} : Lit × DataW H → Nat
  | (.string bytes, d) => bytes.length + uptoBulk d + 1
  | (_, d) => uptoBulk d + 1
 end
def uptoSmall : (H : Type) → List (DataW H) → Bool := fun _ ds => decide (uptoBulkAll ds ≤ 1048576)
def OpenSpec.upto (s : _root_.Go.ChangeSpec) : _root_.Go.OpenSpec := { _root_.Go.OpenSpec.ofChange s with cond := some uptoSmall }

/-- 'laws.FnExactIsTable', WHERE WHAT IT READS IS OF BULK AT MOST 1048576: true; the input reads as it did. -/
def fnExactIsTableUptoRow : OpenClaim := { program := "ytpmbenedeakieaa", sum := "21e362c99be675a2dd3af9001618d522b680b0d084e674239515d250ca9892b5", func := "loop.example/g00908/laws.FnExactIsTable", spec := "fnExactIsTable", unfollowed := true, recurses := true, apart := false, narrowed := true }
def FnExactIsTableUptoSaid : Prop := fnExactIsTableUptoRow.holds Try.pinned (OpenSpec.upto fnExactIsTableSpec)

/-- 'laws.FnExactCellAt', WHERE WHAT IT READS IS OF BULK AT MOST 1048576: true; the input reads as it did. -/
def fnExactCellAtUptoRow : OpenClaim := { program := "ytpmbenedeakieaa", sum := "21e362c99be675a2dd3af9001618d522b680b0d084e674239515d250ca9892b5", func := "loop.example/g00908/laws.FnExactCellAt", spec := "fnExactCellAt", unfollowed := true, recurses := true, apart := false, narrowed := true }
def FnExactCellAtUptoSaid : Prop := fnExactCellAtUptoRow.holds Try.pinned (OpenSpec.upto fnExactCellAtSpec)

/-- 'laws.FnExactSensitivityOf', WHERE WHAT IT READS IS OF BULK AT MOST 1048576: true; the input reads as it did. -/
def fnExactSensitivityOfUptoRow : OpenClaim := { program := "ytpmbenedeakieaa", sum := "21e362c99be675a2dd3af9001618d522b680b0d084e674239515d250ca9892b5", func := "loop.example/g00908/laws.FnExactSensitivityOf", spec := "fnExactSensitivityOf", unfollowed := true, recurses := true, apart := false, narrowed := true }
def FnExactSensitivityOfUptoSaid : Prop := fnExactSensitivityOfUptoRow.holds Try.pinned (OpenSpec.upto fnExactSensitivityOfSpec)

/-- 'laws.FnExactTableOf', WHERE WHAT IT READS IS OF BULK AT MOST 1048576: true; the input reads as it did. -/
def fnExactTableOfUptoRow : OpenClaim := { program := "ytpmbenedeakieaa", sum := "21e362c99be675a2dd3af9001618d522b680b0d084e674239515d250ca9892b5", func := "loop.example/g00908/laws.FnExactTableOf", spec := "fnExactTableOf", unfollowed := true, recurses := true, apart := false, narrowed := true }
def FnExactTableOfUptoSaid : Prop := fnExactTableOfUptoRow.holds Try.pinned (OpenSpec.upto fnExactTableOfSpec)

/-- 'laws.FnExactNormalTable', WHERE WHAT IT READS IS OF BULK AT MOST 1048576: true; the input reads as it did. -/
def fnExactNormalTableUptoRow : OpenClaim := { program := "ytpmbenedeakieaa", sum := "21e362c99be675a2dd3af9001618d522b680b0d084e674239515d250ca9892b5", func := "loop.example/g00908/laws.FnExactNormalTable", spec := "fnExactNormalTable", unfollowed := true, recurses := true, apart := false, narrowed := true }
def FnExactNormalTableUptoSaid : Prop := fnExactNormalTableUptoRow.holds Try.pinned (OpenSpec.upto fnExactNormalTableSpec)

/-- 'laws.FnExactSameMeaning', WHERE WHAT IT READS IS OF BULK AT MOST 1048576: true; the input reads as it did. -/
def fnExactSameMeaningUptoRow : OpenClaim := { program := "ytpmbenedeakieaa", sum := "21e362c99be675a2dd3af9001618d522b680b0d084e674239515d250ca9892b5", func := "loop.example/g00908/laws.FnExactSameMeaning", spec := "fnExactSameMeaning", unfollowed := true, recurses := true, apart := false, narrowed := true }
def FnExactSameMeaningUptoSaid : Prop := fnExactSameMeaningUptoRow.holds Try.pinned (OpenSpec.upto fnExactSameMeaningSpec)

/-- 'laws.FnExactMergePlans', WHERE WHAT IT READS IS OF BULK AT MOST 1048576: true; the input reads as it did. -/
def fnExactMergePlansUptoRow : OpenClaim := { program := "ytpmbenedeakieaa", sum := "21e362c99be675a2dd3af9001618d522b680b0d084e674239515d250ca9892b5", func := "loop.example/g00908/laws.FnExactMergePlans", spec := "fnExactMergePlans", unfollowed := true, recurses := true, apart := false, narrowed := true }
def FnExactMergePlansUptoSaid : Prop := fnExactMergePlansUptoRow.holds Try.pinned (OpenSpec.upto fnExactMergePlansSpec)

/-- 'laws.FnCellRecords', WHERE WHAT IT READS IS OF BULK AT MOST 1048576: true; the input reads as it did. -/
def fnCellRecordsUptoRow : OpenClaim := { program := "ytpmbenedeakieaa", sum := "21e362c99be675a2dd3af9001618d522b680b0d084e674239515d250ca9892b5", func := "loop.example/g00908/laws.FnCellRecords", spec := "fnCellRecords", unfollowed := true, recurses := true, apart := false, narrowed := true }
def FnCellRecordsUptoSaid : Prop := fnCellRecordsUptoRow.holds Try.pinned (OpenSpec.upto fnCellRecordsSpec)

end Rows
end Go.Proofs.Ytpmbenedeakieaa
