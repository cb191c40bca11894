/-
  No cell of these rows narrows 'for every input' (looked for: loops, veiled, ifaces, maps, wideKeys, modest, calm, conditions, laid).
  DERIVED. THE GIVEN ROWS OF THIS SEAT. 4 by the template 'for every input the law returns true; each argument reads behind the call as it read before'; 0 by the template 'total and deterministic' (their statements: YtgkaalonmkcclabTotals.lean).
  GIVEN WITH THE SEED: the statements are not yours to turn. If you find one false, say at which input.
  Laid BY PROGRAM, IN A SANDBOX (cutbox-rows.mjs): the forced cells as the released guide's own fill.sh prints them over the translation fcc2ad453dbc8cc3… (all of the seat's roots in one cut). By AI agents, Wed Nov 11 2026. No macro, syntax, notation, axiom, sorry.
-/
import Derived.Test.YtgkaalonmkcclabChecked
import GoSem.Claim
import GoSem.ClaimJoined
import GoSem.ClaimMapViews
import Derived.JoinedTies
import Derived.KernelRfl
namespace Go.Proofs.Ytgkaalonmkcclab
/- THE CELL 'sum', in the pinned program and in every row, IS THE sha256 OF THE DUMP (.gsa) THAT YtgkaalonmkcclabProg.lean LOADS. Nothing in Lean hashes anything: it is a label: what it is worth is what the hold of that sum in a sandbox is worth. -/
noncomputable def Try.pinned : Pinned := { name := "ytgkaalonmkcclab", sum := "fcc2ad453dbc8cc32139714ae510878bf57fbc24eb677eee129fc83a5006f901", checked := Try.checked }
namespace Rows
def none {H : Type} : Left H := { results := [], args := [] }

/-- 'laws.FnExactIsCover': WHATEVER THE INPUT: true; the input reads as it did. -/
def fnExactIsCoverSpec : ChangeSpec := { name := "fnExactIsCover", fn := fun _ => fun
  | [d1, d2, d3, d4] => { results := [.lit (.bool true)], args := [d1, d2, d3, d4] }
  | _ => none }
def fnExactIsCoverRow : OpenClaim := { program := "ytgkaalonmkcclab", sum := "fcc2ad453dbc8cc32139714ae510878bf57fbc24eb677eee129fc83a5006f901", func := "loop.example/g00908/laws.FnExactIsCover", spec := "fnExactIsCover", unfollowed := true, recurses := true, apart := false }
def FnExactIsCoverSaid : Prop := fnExactIsCoverRow.holds Try.pinned (OpenSpec.ofChange fnExactIsCoverSpec)

/-- ITS FALSE NEIGHBOUR: 'it returns false'. Refute it at one input. -/
def fnExactIsCoverWrong : ChangeSpec := { name := "fnExactIsCover", fn := fun _ => fun
  | [d1, d2, d3, d4] => { results := [.lit (.bool false)], args := [d1, d2, d3, d4] }
  | _ => none }
def FnExactIsCoverWrongFalsely : Prop := fnExactIsCoverRow.holds Try.pinned (OpenSpec.ofChange fnExactIsCoverWrong)

/-- 'laws.FnExactIsMend': WHATEVER THE INPUT: true; the input reads as it did. -/
def fnExactIsMendSpec : ChangeSpec := { name := "fnExactIsMend", fn := fun _ => fun
  | [d1, d2, d3, d4, d5] => { results := [.lit (.bool true)], args := [d1, d2, d3, d4, d5] }
  | _ => none }
def fnExactIsMendRow : OpenClaim := { program := "ytgkaalonmkcclab", sum := "fcc2ad453dbc8cc32139714ae510878bf57fbc24eb677eee129fc83a5006f901", func := "loop.example/g00908/laws.FnExactIsMend", spec := "fnExactIsMend", apart := false }
def FnExactIsMendSaid : Prop := fnExactIsMendRow.holds Try.pinned (OpenSpec.ofChange fnExactIsMendSpec)

/-- ITS FALSE NEIGHBOUR: 'it returns false'. Refute it at one input. -/
def fnExactIsMendWrong : ChangeSpec := { name := "fnExactIsMend", fn := fun _ => fun
  | [d1, d2, d3, d4, d5] => { results := [.lit (.bool false)], args := [d1, d2, d3, d4, d5] }
  | _ => none }
def FnExactIsMendWrongFalsely : Prop := fnExactIsMendRow.holds Try.pinned (OpenSpec.ofChange fnExactIsMendWrong)

/-- 'laws.FnGroupedData': WHATEVER THE INPUT: true; the input reads as it did. -/
def fnGroupedDataSpec : ChangeSpec := { name := "fnGroupedData", fn := fun _ => fun
  | [d1, d2] => { results := [.lit (.bool true)], args := [d1, d2] }
  | _ => none }
def fnGroupedDataRow : OpenClaim := { program := "ytgkaalonmkcclab", sum := "fcc2ad453dbc8cc32139714ae510878bf57fbc24eb677eee129fc83a5006f901", func := "loop.example/g00908/laws.FnGroupedData", spec := "fnGroupedData", apart := false }
def FnGroupedDataSaid : Prop := fnGroupedDataRow.holds Try.pinned (OpenSpec.ofChange fnGroupedDataSpec)

/-- ITS FALSE NEIGHBOUR: 'it returns false'. Refute it at one input. -/
def fnGroupedDataWrong : ChangeSpec := { name := "fnGroupedData", fn := fun _ => fun
  | [d1, d2] => { results := [.lit (.bool false)], args := [d1, d2] }
  | _ => none }
def FnGroupedDataWrongFalsely : Prop := fnGroupedDataRow.holds Try.pinned (OpenSpec.ofChange fnGroupedDataWrong)

/-- 'laws.FnExactMergePlans': WHATEVER THE INPUT: true; the input reads as it did. -/
def fnExactMergePlansSpec : ChangeSpec := { name := "fnExactMergePlans", fn := fun _ => fun
  | [d1, d2, d3, d4] => { results := [.lit (.bool true)], args := [d1, d2, d3, d4] }
  | _ => none }
def fnExactMergePlansRow : OpenClaim := { program := "ytgkaalonmkcclab", sum := "fcc2ad453dbc8cc32139714ae510878bf57fbc24eb677eee129fc83a5006f901", func := "loop.example/g00908/laws.FnExactMergePlans", spec := "fnExactMergePlans", unfollowed := true, recurses := true, apart := false }
def FnExactMergePlansSaid : Prop := fnExactMergePlansRow.holds Try.pinned (OpenSpec.ofChange fnExactMergePlansSpec)

/-- ITS FALSE NEIGHBOUR: 'it returns false'. Refute it at one input. -/
def fnExactMergePlansWrong : ChangeSpec := { name := "fnExactMergePlans", fn := fun _ => fun
  | [d1, d2, d3, d4] => { results := [.lit (.bool false)], args := [d1, d2, d3, d4] }
  | _ => none }
def FnExactMergePlansWrongFalsely : Prop := fnExactMergePlansRow.holds Try.pinned (OpenSpec.ofChange fnExactMergePlansWrong)

/- THE SECOND FORM. 'bulk': how many values and letters a reading holds, each counted each time it is reached (what is shared counts as often as it is met; a slice's spare places count too). A statement '..UptoSaid' is the law's where the arguments, and the package variables that the reading takes, are together of bulk at most 1048576: NARROWER than '..Said'. Prove '..Said' where nothing that the law and all that it calls make is longer than what came in: it says more and counts as full. Else prove '..UptoSaid'. A law counts once. -/
mutual
def uptoBulk {H : Type} : DataW H → Nat
  | .lit (.string bytes) => bytes.length + 1
  | .lit _ => 1
  | .nil => 1
  | .ptr d => uptoBulk d + 1
  | .slice elems spare => uptoBulkAll elems + uptoBulkAll spare + 1
  | .agg parts => uptoBulkAll parts + 1
  | .iface _ d => uptoBulk d + 1
  | .map entries => uptoBulkEntries entries + 1
  | .held _ => 1
def uptoBulkAll {H : Type} : List (DataW H) → Nat
  | [] => 0
  | d :: r => uptoBulk d + uptoBulkAll r
def uptoBulkEntries {H : Type} : List (Lit × DataW H) → Nat
  | [] => 0
  | x :: r => uptoBulkEntry x + uptoBulkEntries r
def uptoBulkEntry {H : Type} : Lit × DataW H → Nat
  | (.string bytes, d) => bytes.length + uptoBulk d + 1
  | (_, d) => uptoBulk d + 1
 end
def uptoSmall : (H : Type) → List (DataW H) → Bool := fun _ ds => decide (uptoBulkAll ds ≤ 1048576)
def OpenSpec.upto (s : _root_.Go.ChangeSpec) : _root_.Go.OpenSpec := { _root_.Go.OpenSpec.ofChange s with cond := some uptoSmall }

/-- 'laws.FnExactIsCover', WHERE WHAT IT READS IS OF BULK AT MOST 1048576: true; the input reads as it did. -/
def fnExactIsCoverUptoRow : OpenClaim := { program := "ytgkaalonmkcclab", sum := "fcc2ad453dbc8cc32139714ae510878bf57fbc24eb677eee129fc83a5006f901", func := "loop.example/g00908/laws.FnExactIsCover", spec := "fnExactIsCover", unfollowed := true, recurses := true, apart := false, narrowed := true }
def FnExactIsCoverUptoSaid : Prop := fnExactIsCoverUptoRow.holds Try.pinned (OpenSpec.upto fnExactIsCoverSpec)

/-- 'laws.FnExactIsMend', WHERE WHAT IT READS IS OF BULK AT MOST 1048576: true; the input reads as it did. -/
def fnExactIsMendUptoRow : OpenClaim := { program := "ytgkaalonmkcclab", sum := "fcc2ad453dbc8cc32139714ae510878bf57fbc24eb677eee129fc83a5006f901", func := "loop.example/g00908/laws.FnExactIsMend", spec := "fnExactIsMend", apart := false, narrowed := true }
def FnExactIsMendUptoSaid : Prop := fnExactIsMendUptoRow.holds Try.pinned (OpenSpec.upto fnExactIsMendSpec)

/-- 'laws.FnGroupedData', WHERE WHAT IT READS IS OF BULK AT MOST 1048576: true; the input reads as it did. -/
def fnGroupedDataUptoRow : OpenClaim := { program := "ytgkaalonmkcclab", sum := "fcc2ad453dbc8cc32139714ae510878bf57fbc24eb677eee129fc83a5006f901", func := "loop.example/g00908/laws.FnGroupedData", spec := "fnGroupedData", apart := false, narrowed := true }
def FnGroupedDataUptoSaid : Prop := fnGroupedDataUptoRow.holds Try.pinned (OpenSpec.upto fnGroupedDataSpec)

/-- 'laws.FnExactMergePlans', WHERE WHAT IT READS IS OF BULK AT MOST 1048576: true; the input reads as it did. -/
def fnExactMergePlansUptoRow : OpenClaim := { program := "ytgkaalonmkcclab", sum := "fcc2ad453dbc8cc32139714ae510878bf57fbc24eb677eee129fc83a5006f901", func := "loop.example/g00908/laws.FnExactMergePlans", spec := "fnExactMergePlans", unfollowed := true, recurses := true, apart := false, narrowed := true }
def FnExactMergePlansUptoSaid : Prop := fnExactMergePlansUptoRow.holds Try.pinned (OpenSpec.upto fnExactMergePlansSpec)

end Rows
end Go.Proofs.Ytgkaalonmkcclab
