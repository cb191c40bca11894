/-
  No cell of these rows narrows 'for every input' (looked for: loops, veiled, ifaces, maps, wideKeys, modest, calm, conditions, laid).
  DERIVED. THE GIVEN ROWS OF THIS SEAT. 4 by the template 'for every input the law returns true; each argument reads behind the call as it read before'; 0 by the template 'total and deterministic' (their statements: YtkjgccdgihkkoaaTotals.lean).
  GIVEN WITH THE SEED: the statements are not yours to turn. If you find one false, say at which input.
  Laid BY PROGRAM, IN A SANDBOX (cutbox-rows.mjs): the forced cells as the released guide's own fill.sh prints them over the translation ed22727ccef8cf61… (all of the seat's roots in one cut). By AI agents, Wed Nov 11 2026. No macro, syntax, notation, axiom, sorry.
-/
import Derived.Test.YtkjgccdgihkkoaaChecked
import GoSem.Claim
import GoSem.ClaimJoined
import GoSem.ClaimMapViews
import Derived.JoinedTies
import Derived.KernelRfl
namespace Go.Proofs.Ytkjgccdgihkkoaa
/- THE CELL 'sum', in the pinned program and in every row, IS THE sha256 OF THE DUMP (.gsa) THAT YtkjgccdgihkkoaaProg.lean LOADS. Nothing in Lean hashes anything: it is a label: what it is worth is what the hold of that sum in a sandbox is worth. -/
noncomputable def Try.pinned : Pinned := { name := "ytkjgccdgihkkoaa", sum := "ed22727ccef8cf618db82da45b5a75bd87f3ffffb15b78b009ade4afbbfed6a9", checked := Try.checked }
namespace Rows
def none {H : Type} : Left H := { results := [], args := [] }

/-- 'laws.FnExactIsFrac': WHATEVER THE INPUT: true; the input reads as it did. -/
def fnExactIsFracSpec : ChangeSpec := { name := "fnExactIsFrac", fn := fun _ => fun
  | [d] => { results := [.lit (.bool true)], args := [d] }
  | _ => none }
def fnExactIsFracRow : OpenClaim := { program := "ytkjgccdgihkkoaa", sum := "ed22727ccef8cf618db82da45b5a75bd87f3ffffb15b78b009ade4afbbfed6a9", func := "loop.example/g00908/laws.FnExactIsFrac", spec := "fnExactIsFrac", apart := false }
def FnExactIsFracSaid : Prop := fnExactIsFracRow.holds Try.pinned (OpenSpec.ofChange fnExactIsFracSpec)

/-- ITS FALSE NEIGHBOUR: 'it returns false'. Refute it at one input. -/
def fnExactIsFracWrong : ChangeSpec := { name := "fnExactIsFrac", fn := fun _ => fun
  | [d] => { results := [.lit (.bool false)], args := [d] }
  | _ => none }
def FnExactIsFracWrongFalsely : Prop := fnExactIsFracRow.holds Try.pinned (OpenSpec.ofChange fnExactIsFracWrong)

/-- 'laws.FnExactCompareFrac': WHATEVER THE INPUT: true; the input reads as it did. -/
def fnExactCompareFracSpec : ChangeSpec := { name := "fnExactCompareFrac", fn := fun _ => fun
  | [d1, d2] => { results := [.lit (.bool true)], args := [d1, d2] }
  | _ => none }
def fnExactCompareFracRow : OpenClaim := { program := "ytkjgccdgihkkoaa", sum := "ed22727ccef8cf618db82da45b5a75bd87f3ffffb15b78b009ade4afbbfed6a9", func := "loop.example/g00908/laws.FnExactCompareFrac", spec := "fnExactCompareFrac", apart := false }
def FnExactCompareFracSaid : Prop := fnExactCompareFracRow.holds Try.pinned (OpenSpec.ofChange fnExactCompareFracSpec)

/-- ITS FALSE NEIGHBOUR: 'it returns false'. Refute it at one input. -/
def fnExactCompareFracWrong : ChangeSpec := { name := "fnExactCompareFrac", fn := fun _ => fun
  | [d1, d2] => { results := [.lit (.bool false)], args := [d1, d2] }
  | _ => none }
def FnExactCompareFracWrongFalsely : Prop := fnExactCompareFracRow.holds Try.pinned (OpenSpec.ofChange fnExactCompareFracWrong)

/-- 'laws.FnExactFloorFrac': WHATEVER THE INPUT: true; the input reads as it did. -/
def fnExactFloorFracSpec : ChangeSpec := { name := "fnExactFloorFrac", fn := fun _ => fun
  | [d] => { results := [.lit (.bool true)], args := [d] }
  | _ => none }
def fnExactFloorFracRow : OpenClaim := { program := "ytkjgccdgihkkoaa", sum := "ed22727ccef8cf618db82da45b5a75bd87f3ffffb15b78b009ade4afbbfed6a9", func := "loop.example/g00908/laws.FnExactFloorFrac", spec := "fnExactFloorFrac", apart := false }
def FnExactFloorFracSaid : Prop := fnExactFloorFracRow.holds Try.pinned (OpenSpec.ofChange fnExactFloorFracSpec)

/-- ITS FALSE NEIGHBOUR: 'it returns false'. Refute it at one input. -/
def fnExactFloorFracWrong : ChangeSpec := { name := "fnExactFloorFrac", fn := fun _ => fun
  | [d] => { results := [.lit (.bool false)], args := [d] }
  | _ => none }
def FnExactFloorFracWrongFalsely : Prop := fnExactFloorFracRow.holds Try.pinned (OpenSpec.ofChange fnExactFloorFracWrong)

/-- 'laws.FnExactRoundFrac': WHATEVER THE INPUT: true; the input reads as it did. -/
def fnExactRoundFracSpec : ChangeSpec := { name := "fnExactRoundFrac", fn := fun _ => fun
  | [d] => { results := [.lit (.bool true)], args := [d] }
  | _ => none }
def fnExactRoundFracRow : OpenClaim := { program := "ytkjgccdgihkkoaa", sum := "ed22727ccef8cf618db82da45b5a75bd87f3ffffb15b78b009ade4afbbfed6a9", func := "loop.example/g00908/laws.FnExactRoundFrac", spec := "fnExactRoundFrac", apart := false }
def FnExactRoundFracSaid : Prop := fnExactRoundFracRow.holds Try.pinned (OpenSpec.ofChange fnExactRoundFracSpec)

/-- ITS FALSE NEIGHBOUR: 'it returns false'. Refute it at one input. -/
def fnExactRoundFracWrong : ChangeSpec := { name := "fnExactRoundFrac", fn := fun _ => fun
  | [d] => { results := [.lit (.bool false)], args := [d] }
  | _ => none }
def FnExactRoundFracWrongFalsely : Prop := fnExactRoundFracRow.holds Try.pinned (OpenSpec.ofChange fnExactRoundFracWrong)

/- THE SECOND FORM. 'bulk': how many values and letters a reading holds, each counted each time it is reached (what is shared counts as often as it is met; a slice's spare places count too). A statement '..UptoSaid' is the law's where the arguments, and the package variables that the reading takes, are together of bulk at most 1048576: NARROWER than '..Said'. Prove '..Said' where nothing that the law and all that it calls make is longer than what came in: it says more and counts as full. Else prove '..UptoSaid'. A law counts once. -/
mutual
def uptoBulk {H : Type} : DataW H → Nat
  | .lit (.string bytes) => bytes.length + 1
  | .lit _ => 1
  | .nil => 1
  | .ptr d => uptoBulk d + 1
  | .slice elems spare => uptoBulkAll elems + uptoBulkAll spare + 1
  | .agg parts => uptoBulkAll parts + 1
  | .iface _ d => uptoBulk d + 1
  | .map entries => uptoBulkEntries entries + 1
  | .held _ => 1
def uptoBulkAll {H : Type} : List (DataW H) → Nat
  | [] => 0
  | d :: r => uptoBulk d + uptoBulkAll r
def uptoBulkEntries {H : Type} : List (Lit × DataW H) → Nat
  | [] => 0
  | x :: r => uptoBulkEntry x + uptoBulkEntries r
def uptoBulkEntry {H : Type} : Lit × DataW H → Nat
  | (.string bytes, d) => bytes.length + uptoBulk d + 1
  | (_, d) => uptoBulk d + 1
 end
def uptoSmall : (H : Type) → List (DataW H) → Bool := fun _ ds => decide (uptoBulkAll ds ≤ 1048576)
def OpenSpec.upto (s : _root_.Go.ChangeSpec) : _root_.Go.OpenSpec := { _root_.Go.OpenSpec.ofChange s with cond := some uptoSmall }

/-- 'laws.FnExactIsFrac', WHERE WHAT IT READS IS OF BULK AT MOST 1048576: true; the input reads as it did. -/
def fnExactIsFracUptoRow : OpenClaim := { program := "ytkjgccdgihkkoaa", sum := "ed22727ccef8cf618db82da45b5a75bd87f3ffffb15b78b009ade4afbbfed6a9", func := "loop.example/g00908/laws.FnExactIsFrac", spec := "fnExactIsFrac", apart := false, narrowed := true }
def FnExactIsFracUptoSaid : Prop := fnExactIsFracUptoRow.holds Try.pinned (OpenSpec.upto fnExactIsFracSpec)

/-- 'laws.FnExactCompareFrac', WHERE WHAT IT READS IS OF BULK AT MOST 1048576: true; the input reads as it did. -/
def fnExactCompareFracUptoRow : OpenClaim := { program := "ytkjgccdgihkkoaa", sum := "ed22727ccef8cf618db82da45b5a75bd87f3ffffb15b78b009ade4afbbfed6a9", func := "loop.example/g00908/laws.FnExactCompareFrac", spec := "fnExactCompareFrac", apart := false, narrowed := true }
def FnExactCompareFracUptoSaid : Prop := fnExactCompareFracUptoRow.holds Try.pinned (OpenSpec.upto fnExactCompareFracSpec)

/-- 'laws.FnExactFloorFrac', WHERE WHAT IT READS IS OF BULK AT MOST 1048576: true; the input reads as it did. -/
def fnExactFloorFracUptoRow : OpenClaim := { program := "ytkjgccdgihkkoaa", sum := "ed22727ccef8cf618db82da45b5a75bd87f3ffffb15b78b009ade4afbbfed6a9", func := "loop.example/g00908/laws.FnExactFloorFrac", spec := "fnExactFloorFrac", apart := false, narrowed := true }
def FnExactFloorFracUptoSaid : Prop := fnExactFloorFracUptoRow.holds Try.pinned (OpenSpec.upto fnExactFloorFracSpec)

/-- 'laws.FnExactRoundFrac', WHERE WHAT IT READS IS OF BULK AT MOST 1048576: true; the input reads as it did. -/
def fnExactRoundFracUptoRow : OpenClaim := { program := "ytkjgccdgihkkoaa", sum := "ed22727ccef8cf618db82da45b5a75bd87f3ffffb15b78b009ade4afbbfed6a9", func := "loop.example/g00908/laws.FnExactRoundFrac", spec := "fnExactRoundFrac", apart := false, narrowed := true }
def FnExactRoundFracUptoSaid : Prop := fnExactRoundFracUptoRow.holds Try.pinned (OpenSpec.upto fnExactRoundFracSpec)

end Rows
end Go.Proofs.Ytkjgccdgihkkoaa
