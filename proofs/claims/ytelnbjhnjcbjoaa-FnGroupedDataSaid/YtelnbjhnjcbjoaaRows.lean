/-
  No cell of these rows narrows 'for every input' (looked for: loops, veiled, ifaces, maps, wideKeys, modest, calm, conditions, laid).
  DERIVED. THE GIVEN ROWS OF THIS SEAT. 9 by the template 'for every input the law returns true; each argument reads behind the call as it read before'; 0 by the template 'total and deterministic' (their statements: YtelnbjhnjcbjoaaTotals.lean).
  GIVEN WITH THE SEED: the statements are not yours to turn. If you find one false, say at which input.
  Laid BY PROGRAM, IN A SANDBOX (cutbox-rows.mjs): the forced cells as the released guide's own fill.sh prints them over the translation 47ab9e8b4973237d… (all of the seat's roots in one cut). By AI agents, Wed Nov 11 2026. No macro, syntax, notation, axiom, sorry.
-/
import Derived.Test.YtelnbjhnjcbjoaaChecked
import GoSem.Claim
import GoSem.ClaimJoined
import GoSem.ClaimMapViews
import Derived.JoinedTies
import Derived.KernelRfl
namespace Go.Proofs.Ytelnbjhnjcbjoaa
/- THE CELL 'sum', in the pinned program and in every row, IS THE sha256 OF THE DUMP (.gsa) THAT YtelnbjhnjcbjoaaProg.lean LOADS. Nothing in Lean hashes anything: it is a label: what it is worth is what the hold of that sum in a sandbox is worth. -/
noncomputable def Try.pinned : Pinned := { name := "ytelnbjhnjcbjoaa", sum := "47ab9e8b4973237d4c623119cb20da3ac4f0640fdcb1687d2685ae4ee51ebe6c", checked := Try.checked }
namespace Rows
def none {H : Type} : Left H := { results := [], args := [] }

/-- 'laws.FnGroupedData': WHATEVER THE INPUT: true; the input reads as it did. -/
def fnGroupedDataSpec : ChangeSpec := { name := "fnGroupedData", fn := fun _ => fun
  | [d1, d2] => { results := [.lit (.bool true)], args := [d1, d2] }
  | _ => none }
def fnGroupedDataRow : OpenClaim := { program := "ytelnbjhnjcbjoaa", sum := "47ab9e8b4973237d4c623119cb20da3ac4f0640fdcb1687d2685ae4ee51ebe6c", func := "loop.example/g00908/laws.FnGroupedData", spec := "fnGroupedData", apart := false }
def FnGroupedDataSaid : Prop := fnGroupedDataRow.holds Try.pinned (OpenSpec.ofChange fnGroupedDataSpec)

/-- ITS FALSE NEIGHBOUR: 'it returns false'. Refute it at one input. -/
def fnGroupedDataWrong : ChangeSpec := { name := "fnGroupedData", fn := fun _ => fun
  | [d1, d2] => { results := [.lit (.bool false)], args := [d1, d2] }
  | _ => none }
def FnGroupedDataWrongFalsely : Prop := fnGroupedDataRow.holds Try.pinned (OpenSpec.ofChange fnGroupedDataWrong)

/-- 'laws.FnExactHouseholdsOf': WHATEVER THE INPUT: true; the input reads as it did. -/
def fnExactHouseholdsOfSpec : ChangeSpec := { name := "fnExactHouseholdsOf", fn := fun _ => fun
  | [d1, d2] => { results := [.lit (.bool true)], args := [d1, d2] }
  | _ => none }
def fnExactHouseholdsOfRow : OpenClaim := { program := "ytelnbjhnjcbjoaa", sum := "47ab9e8b4973237d4c623119cb20da3ac4f0640fdcb1687d2685ae4ee51ebe6c", func := "loop.example/g00908/laws.FnExactHouseholdsOf", spec := "fnExactHouseholdsOf", unfollowed := true, recurses := true, apart := false }
def FnExactHouseholdsOfSaid : Prop := fnExactHouseholdsOfRow.holds Try.pinned (OpenSpec.ofChange fnExactHouseholdsOfSpec)

/-- ITS FALSE NEIGHBOUR: 'it returns false'. Refute it at one input. -/
def fnExactHouseholdsOfWrong : ChangeSpec := { name := "fnExactHouseholdsOf", fn := fun _ => fun
  | [d1, d2] => { results := [.lit (.bool false)], args := [d1, d2] }
  | _ => none }
def FnExactHouseholdsOfWrongFalsely : Prop := fnExactHouseholdsOfRow.holds Try.pinned (OpenSpec.ofChange fnExactHouseholdsOfWrong)

/-- 'laws.FnExactIsGeo': WHATEVER THE INPUT: true; the input reads as it did. -/
def fnExactIsGeoSpec : ChangeSpec := { name := "fnExactIsGeo", fn := fun _ => fun
  | [d] => { results := [.lit (.bool true)], args := [d] }
  | _ => none }
def fnExactIsGeoRow : OpenClaim := { program := "ytelnbjhnjcbjoaa", sum := "47ab9e8b4973237d4c623119cb20da3ac4f0640fdcb1687d2685ae4ee51ebe6c", func := "loop.example/g00908/laws.FnExactIsGeo", spec := "fnExactIsGeo", apart := false }
def FnExactIsGeoSaid : Prop := fnExactIsGeoRow.holds Try.pinned (OpenSpec.ofChange fnExactIsGeoSpec)

/-- ITS FALSE NEIGHBOUR: 'it returns false'. Refute it at one input. -/
def fnExactIsGeoWrong : ChangeSpec := { name := "fnExactIsGeo", fn := fun _ => fun
  | [d] => { results := [.lit (.bool false)], args := [d] }
  | _ => none }
def FnExactIsGeoWrongFalsely : Prop := fnExactIsGeoRow.holds Try.pinned (OpenSpec.ofChange fnExactIsGeoWrong)

/-- 'laws.FnExactDepthOf': WHATEVER THE INPUT: true; the input reads as it did. -/
def fnExactDepthOfSpec : ChangeSpec := { name := "fnExactDepthOf", fn := fun _ => fun
  | [d1, d2] => { results := [.lit (.bool true)], args := [d1, d2] }
  | _ => none }
def fnExactDepthOfRow : OpenClaim := { program := "ytelnbjhnjcbjoaa", sum := "47ab9e8b4973237d4c623119cb20da3ac4f0640fdcb1687d2685ae4ee51ebe6c", func := "loop.example/g00908/laws.FnExactDepthOf", spec := "fnExactDepthOf", unfollowed := true, recurses := true, apart := false }
def FnExactDepthOfSaid : Prop := fnExactDepthOfRow.holds Try.pinned (OpenSpec.ofChange fnExactDepthOfSpec)

/-- ITS FALSE NEIGHBOUR: 'it returns false'. Refute it at one input. -/
def fnExactDepthOfWrong : ChangeSpec := { name := "fnExactDepthOf", fn := fun _ => fun
  | [d1, d2] => { results := [.lit (.bool false)], args := [d1, d2] }
  | _ => none }
def FnExactDepthOfWrongFalsely : Prop := fnExactDepthOfRow.holds Try.pinned (OpenSpec.ofChange fnExactDepthOfWrong)

/-- 'laws.FnExactLevelOf': WHATEVER THE INPUT: true; the input reads as it did. -/
def fnExactLevelOfSpec : ChangeSpec := { name := "fnExactLevelOf", fn := fun _ => fun
  | [d1, d2] => { results := [.lit (.bool true)], args := [d1, d2] }
  | _ => none }
def fnExactLevelOfRow : OpenClaim := { program := "ytelnbjhnjcbjoaa", sum := "47ab9e8b4973237d4c623119cb20da3ac4f0640fdcb1687d2685ae4ee51ebe6c", func := "loop.example/g00908/laws.FnExactLevelOf", spec := "fnExactLevelOf", unfollowed := true, recurses := true, apart := false }
def FnExactLevelOfSaid : Prop := fnExactLevelOfRow.holds Try.pinned (OpenSpec.ofChange fnExactLevelOfSpec)

/-- ITS FALSE NEIGHBOUR: 'it returns false'. Refute it at one input. -/
def fnExactLevelOfWrong : ChangeSpec := { name := "fnExactLevelOf", fn := fun _ => fun
  | [d1, d2] => { results := [.lit (.bool false)], args := [d1, d2] }
  | _ => none }
def FnExactLevelOfWrongFalsely : Prop := fnExactLevelOfRow.holds Try.pinned (OpenSpec.ofChange fnExactLevelOfWrong)

/-- 'laws.FnExactLeavesOf': WHATEVER THE INPUT: true; the input reads as it did. -/
def fnExactLeavesOfSpec : ChangeSpec := { name := "fnExactLeavesOf", fn := fun _ => fun
  | [d] => { results := [.lit (.bool true)], args := [d] }
  | _ => none }
def fnExactLeavesOfRow : OpenClaim := { program := "ytelnbjhnjcbjoaa", sum := "47ab9e8b4973237d4c623119cb20da3ac4f0640fdcb1687d2685ae4ee51ebe6c", func := "loop.example/g00908/laws.FnExactLeavesOf", spec := "fnExactLeavesOf", unfollowed := true, recurses := true, apart := false }
def FnExactLeavesOfSaid : Prop := fnExactLeavesOfRow.holds Try.pinned (OpenSpec.ofChange fnExactLeavesOfSpec)

/-- ITS FALSE NEIGHBOUR: 'it returns false'. Refute it at one input. -/
def fnExactLeavesOfWrong : ChangeSpec := { name := "fnExactLeavesOf", fn := fun _ => fun
  | [d] => { results := [.lit (.bool false)], args := [d] }
  | _ => none }
def FnExactLeavesOfWrongFalsely : Prop := fnExactLeavesOfRow.holds Try.pinned (OpenSpec.ofChange fnExactLeavesOfWrong)

/-- 'laws.FnExactAncestorAt': WHATEVER THE INPUT: true; the input reads as it did. -/
def fnExactAncestorAtSpec : ChangeSpec := { name := "fnExactAncestorAt", fn := fun _ => fun
  | [d1, d2, d3] => { results := [.lit (.bool true)], args := [d1, d2, d3] }
  | _ => none }
def fnExactAncestorAtRow : OpenClaim := { program := "ytelnbjhnjcbjoaa", sum := "47ab9e8b4973237d4c623119cb20da3ac4f0640fdcb1687d2685ae4ee51ebe6c", func := "loop.example/g00908/laws.FnExactAncestorAt", spec := "fnExactAncestorAt", apart := false }
def FnExactAncestorAtSaid : Prop := fnExactAncestorAtRow.holds Try.pinned (OpenSpec.ofChange fnExactAncestorAtSpec)

/-- ITS FALSE NEIGHBOUR: 'it returns false'. Refute it at one input. -/
def fnExactAncestorAtWrong : ChangeSpec := { name := "fnExactAncestorAt", fn := fun _ => fun
  | [d1, d2, d3] => { results := [.lit (.bool false)], args := [d1, d2, d3] }
  | _ => none }
def FnExactAncestorAtWrongFalsely : Prop := fnExactAncestorAtRow.holds Try.pinned (OpenSpec.ofChange fnExactAncestorAtWrong)

/-- 'laws.FnExactPathTo': WHATEVER THE INPUT: true; the input reads as it did. -/
def fnExactPathToSpec : ChangeSpec := { name := "fnExactPathTo", fn := fun _ => fun
  | [d1, d2] => { results := [.lit (.bool true)], args := [d1, d2] }
  | _ => none }
def fnExactPathToRow : OpenClaim := { program := "ytelnbjhnjcbjoaa", sum := "47ab9e8b4973237d4c623119cb20da3ac4f0640fdcb1687d2685ae4ee51ebe6c", func := "loop.example/g00908/laws.FnExactPathTo", spec := "fnExactPathTo", apart := false }
def FnExactPathToSaid : Prop := fnExactPathToRow.holds Try.pinned (OpenSpec.ofChange fnExactPathToSpec)

/-- ITS FALSE NEIGHBOUR: 'it returns false'. Refute it at one input. -/
def fnExactPathToWrong : ChangeSpec := { name := "fnExactPathTo", fn := fun _ => fun
  | [d1, d2] => { results := [.lit (.bool false)], args := [d1, d2] }
  | _ => none }
def FnExactPathToWrongFalsely : Prop := fnExactPathToRow.holds Try.pinned (OpenSpec.ofChange fnExactPathToWrong)

/-- 'laws.FnExactChildrenOf': WHATEVER THE INPUT: true; the input reads as it did. -/
def fnExactChildrenOfSpec : ChangeSpec := { name := "fnExactChildrenOf", fn := fun _ => fun
  | [d1, d2] => { results := [.lit (.bool true)], args := [d1, d2] }
  | _ => none }
def fnExactChildrenOfRow : OpenClaim := { program := "ytelnbjhnjcbjoaa", sum := "47ab9e8b4973237d4c623119cb20da3ac4f0640fdcb1687d2685ae4ee51ebe6c", func := "loop.example/g00908/laws.FnExactChildrenOf", spec := "fnExactChildrenOf", apart := false }
def FnExactChildrenOfSaid : Prop := fnExactChildrenOfRow.holds Try.pinned (OpenSpec.ofChange fnExactChildrenOfSpec)

/-- ITS FALSE NEIGHBOUR: 'it returns false'. Refute it at one input. -/
def fnExactChildrenOfWrong : ChangeSpec := { name := "fnExactChildrenOf", fn := fun _ => fun
  | [d1, d2] => { results := [.lit (.bool false)], args := [d1, d2] }
  | _ => none }
def FnExactChildrenOfWrongFalsely : Prop := fnExactChildrenOfRow.holds Try.pinned (OpenSpec.ofChange fnExactChildrenOfWrong)

/- THE SECOND FORM. 'bulk': how many values and letters a reading holds, each counted each time it is reached (what is shared counts as often as it is met; a slice's spare places count too). A statement '..UptoSaid' is the law's where the arguments, and the package variables that the reading takes, are together of bulk at most 1048576: NARROWER than '..Said'. Prove '..Said' where nothing that the law and all that it calls make is longer than what came in: it says more and counts as full. Else prove '..UptoSaid'. A law counts once. -/
mutual
def uptoBulk {H : Type} : DataW H → Nat
  | .lit (.string bytes) => bytes.length + 1
  | .lit _ => 1
  | .nil => 1
  | .ptr d => uptoBulk d + 1
  | .slice elems spare => uptoBulkAll elems + uptoBulkAll spare + 1
  | .agg parts => uptoBulkAll parts + 1
  | .iface _ d => uptoBulk d + 1
  | .map entries => uptoBulkEntries entries + 1
  | .held _ => 1
def uptoBulkAll {H : Type} : List (DataW H) → Nat
  | [] => 0
  | d :: r => uptoBulk d + uptoBulkAll r
def uptoBulkEntries {H : Type} : List (Lit × DataW H) → Nat
  | [] => 0
  | x :: r => uptoBulkEntry x + uptoBulkEntries r
def uptoBulkEntry {H : Type} : Lit × DataW H → Nat
  | (.string bytes, d) => bytes.length + uptoBulk d + 1
  | (_, d) => uptoBulk d + 1
 end
def uptoSmall : (H : Type) → List (DataW H) → Bool := fun _ ds => decide (uptoBulkAll ds ≤ 1048576)
def OpenSpec.upto (s : _root_.Go.ChangeSpec) : _root_.Go.OpenSpec := { _root_.Go.OpenSpec.ofChange s with cond := some uptoSmall }

/-- 'laws.FnGroupedData', WHERE WHAT IT READS IS OF BULK AT MOST 1048576: true; the input reads as it did. -/
def fnGroupedDataUptoRow : OpenClaim := { program := "ytelnbjhnjcbjoaa", sum := "47ab9e8b4973237d4c623119cb20da3ac4f0640fdcb1687d2685ae4ee51ebe6c", func := "loop.example/g00908/laws.FnGroupedData", spec := "fnGroupedData", apart := false, narrowed := true }
def FnGroupedDataUptoSaid : Prop := fnGroupedDataUptoRow.holds Try.pinned (OpenSpec.upto fnGroupedDataSpec)

/-- 'laws.FnExactHouseholdsOf', WHERE WHAT IT READS IS OF BULK AT MOST 1048576: true; the input reads as it did. -/
def fnExactHouseholdsOfUptoRow : OpenClaim := { program := "ytelnbjhnjcbjoaa", sum := "47ab9e8b4973237d4c623119cb20da3ac4f0640fdcb1687d2685ae4ee51ebe6c", func := "loop.example/g00908/laws.FnExactHouseholdsOf", spec := "fnExactHouseholdsOf", unfollowed := true, recurses := true, apart := false, narrowed := true }
def FnExactHouseholdsOfUptoSaid : Prop := fnExactHouseholdsOfUptoRow.holds Try.pinned (OpenSpec.upto fnExactHouseholdsOfSpec)

/-- 'laws.FnExactIsGeo', WHERE WHAT IT READS IS OF BULK AT MOST 1048576: true; the input reads as it did. -/
def fnExactIsGeoUptoRow : OpenClaim := { program := "ytelnbjhnjcbjoaa", sum := "47ab9e8b4973237d4c623119cb20da3ac4f0640fdcb1687d2685ae4ee51ebe6c", func := "loop.example/g00908/laws.FnExactIsGeo", spec := "fnExactIsGeo", apart := false, narrowed := true }
def FnExactIsGeoUptoSaid : Prop := fnExactIsGeoUptoRow.holds Try.pinned (OpenSpec.upto fnExactIsGeoSpec)

/-- 'laws.FnExactDepthOf', WHERE WHAT IT READS IS OF BULK AT MOST 1048576: true; the input reads as it did. -/
def fnExactDepthOfUptoRow : OpenClaim := { program := "ytelnbjhnjcbjoaa", sum := "47ab9e8b4973237d4c623119cb20da3ac4f0640fdcb1687d2685ae4ee51ebe6c", func := "loop.example/g00908/laws.FnExactDepthOf", spec := "fnExactDepthOf", unfollowed := true, recurses := true, apart := false, narrowed := true }
def FnExactDepthOfUptoSaid : Prop := fnExactDepthOfUptoRow.holds Try.pinned (OpenSpec.upto fnExactDepthOfSpec)

/-- 'laws.FnExactLevelOf', WHERE WHAT IT READS IS OF BULK AT MOST 1048576: true; the input reads as it did. -/
def fnExactLevelOfUptoRow : OpenClaim := { program := "ytelnbjhnjcbjoaa", sum := "47ab9e8b4973237d4c623119cb20da3ac4f0640fdcb1687d2685ae4ee51ebe6c", func := "loop.example/g00908/laws.FnExactLevelOf", spec := "fnExactLevelOf", unfollowed := true, recurses := true, apart := false, narrowed := true }
def FnExactLevelOfUptoSaid : Prop := fnExactLevelOfUptoRow.holds Try.pinned (OpenSpec.upto fnExactLevelOfSpec)

/-- 'laws.FnExactLeavesOf', WHERE WHAT IT READS IS OF BULK AT MOST 1048576: true; the input reads as it did. -/
def fnExactLeavesOfUptoRow : OpenClaim := { program := "ytelnbjhnjcbjoaa", sum := "47ab9e8b4973237d4c623119cb20da3ac4f0640fdcb1687d2685ae4ee51ebe6c", func := "loop.example/g00908/laws.FnExactLeavesOf", spec := "fnExactLeavesOf", unfollowed := true, recurses := true, apart := false, narrowed := true }
def FnExactLeavesOfUptoSaid : Prop := fnExactLeavesOfUptoRow.holds Try.pinned (OpenSpec.upto fnExactLeavesOfSpec)

/-- 'laws.FnExactAncestorAt', WHERE WHAT IT READS IS OF BULK AT MOST 1048576: true; the input reads as it did. -/
def fnExactAncestorAtUptoRow : OpenClaim := { program := "ytelnbjhnjcbjoaa", sum := "47ab9e8b4973237d4c623119cb20da3ac4f0640fdcb1687d2685ae4ee51ebe6c", func := "loop.example/g00908/laws.FnExactAncestorAt", spec := "fnExactAncestorAt", apart := false, narrowed := true }
def FnExactAncestorAtUptoSaid : Prop := fnExactAncestorAtUptoRow.holds Try.pinned (OpenSpec.upto fnExactAncestorAtSpec)

/-- 'laws.FnExactPathTo', WHERE WHAT IT READS IS OF BULK AT MOST 1048576: true; the input reads as it did. -/
def fnExactPathToUptoRow : OpenClaim := { program := "ytelnbjhnjcbjoaa", sum := "47ab9e8b4973237d4c623119cb20da3ac4f0640fdcb1687d2685ae4ee51ebe6c", func := "loop.example/g00908/laws.FnExactPathTo", spec := "fnExactPathTo", apart := false, narrowed := true }
def FnExactPathToUptoSaid : Prop := fnExactPathToUptoRow.holds Try.pinned (OpenSpec.upto fnExactPathToSpec)

/-- 'laws.FnExactChildrenOf', WHERE WHAT IT READS IS OF BULK AT MOST 1048576: true; the input reads as it did. -/
def fnExactChildrenOfUptoRow : OpenClaim := { program := "ytelnbjhnjcbjoaa", sum := "47ab9e8b4973237d4c623119cb20da3ac4f0640fdcb1687d2685ae4ee51ebe6c", func := "loop.example/g00908/laws.FnExactChildrenOf", spec := "fnExactChildrenOf", apart := false, narrowed := true }
def FnExactChildrenOfUptoSaid : Prop := fnExactChildrenOfUptoRow.holds Try.pinned (OpenSpec.upto fnExactChildrenOfSpec)

end Rows
end Go.Proofs.Ytelnbjhnjcbjoaa
