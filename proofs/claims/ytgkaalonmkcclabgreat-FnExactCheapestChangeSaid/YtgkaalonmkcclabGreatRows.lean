/-
  No cell of these rows narrows 'for every input' (looked for: loops, veiled, ifaces, maps, wideKeys, modest, calm, conditions, laid).
  DERIVED. THE GIVEN ROWS OF THIS SEAT. 3 by the template 'for every input the law returns true; each argument reads behind the call as it read before'; 0 by the template 'total and deterministic' (their statements: YtgkaalonmkcclabGreatTotals.lean).
  GIVEN WITH THE SEED: the statements are not yours to turn. If you find one false, say at which input.
  Laid BY PROGRAM, IN A SANDBOX (cutbox-rows.mjs): the forced cells as the released guide's own fill.sh prints them over the translation f095350cd09e62d7… (all of the seat's roots in one cut). By AI agents, Wed Nov 11 2026. No macro, syntax, notation, axiom, sorry.
-/
import Derived.Test.YtgkaalonmkcclabGreatChecked
import GoSem.Claim
import GoSem.ClaimJoined
import GoSem.ClaimMapViews
import Derived.JoinedTies
import Derived.KernelRfl
namespace Go.Proofs.YtgkaalonmkcclabGreat
/- THE CELL 'sum', in the pinned program and in every row, IS THE sha256 OF THE DUMP (.gsa) THAT YtgkaalonmkcclabGreatProg.lean LOADS. Nothing in Lean hashes anything: it is a label: what it is worth is what the hold of that sum in a sandbox is worth. -/
noncomputable def Tryz.pinned : Pinned := { name := "ytgkaalonmkcclabgreat", sum := "f095350cd09e62d77444fc255fd3a6d8c64d38aadc8c0f58b7a3fb71b3983bf1", checked := Tryz.checked }
namespace Rows
def none {H : Type} : Left H := { results := [], args := [] }

/-- 'laws.FnExactCheapestChange': WHATEVER THE INPUT: true; the input reads as it did. -/
def fnExactCheapestChangeSpec : ChangeSpec := { name := "fnExactCheapestChange", fn := fun _ => fun
  | [d1, d2, d3, d4] => { results := [.lit (.bool true)], args := [d1, d2, d3, d4] }
  | _ => none }
def fnExactCheapestChangeRow : OpenClaim := { program := "ytgkaalonmkcclabgreat", sum := "f095350cd09e62d77444fc255fd3a6d8c64d38aadc8c0f58b7a3fb71b3983bf1", func := "loop.example/g00908/laws.FnExactCheapestChange", spec := "fnExactCheapestChange", unfollowed := true, recurses := true, apart := false }
def FnExactCheapestChangeSaid : Prop := fnExactCheapestChangeRow.holds Tryz.pinned (OpenSpec.ofChange fnExactCheapestChangeSpec)

/-- ITS FALSE NEIGHBOUR: 'it returns false'. Refute it at one input. -/
def fnExactCheapestChangeWrong : ChangeSpec := { name := "fnExactCheapestChange", fn := fun _ => fun
  | [d1, d2, d3, d4] => { results := [.lit (.bool false)], args := [d1, d2, d3, d4] }
  | _ => none }
def FnExactCheapestChangeWrongFalsely : Prop := fnExactCheapestChangeRow.holds Tryz.pinned (OpenSpec.ofChange fnExactCheapestChangeWrong)

/-- 'laws.FnExactMendValues': WHATEVER THE INPUT: true; the input reads as it did. -/
def fnExactMendValuesSpec : ChangeSpec := { name := "fnExactMendValues", fn := fun _ => fun
  | [d1, d2, d3, d4] => { results := [.lit (.bool true)], args := [d1, d2, d3, d4] }
  | _ => none }
def fnExactMendValuesRow : OpenClaim := { program := "ytgkaalonmkcclabgreat", sum := "f095350cd09e62d77444fc255fd3a6d8c64d38aadc8c0f58b7a3fb71b3983bf1", func := "loop.example/g00908/laws.FnExactMendValues", spec := "fnExactMendValues", unfollowed := true, recurses := true, apart := false }
def FnExactMendValuesSaid : Prop := fnExactMendValuesRow.holds Tryz.pinned (OpenSpec.ofChange fnExactMendValuesSpec)

/-- ITS FALSE NEIGHBOUR: 'it returns false'. Refute it at one input. -/
def fnExactMendValuesWrong : ChangeSpec := { name := "fnExactMendValues", fn := fun _ => fun
  | [d1, d2, d3, d4] => { results := [.lit (.bool false)], args := [d1, d2, d3, d4] }
  | _ => none }
def FnExactMendValuesWrongFalsely : Prop := fnExactMendValuesRow.holds Tryz.pinned (OpenSpec.ofChange fnExactMendValuesWrong)

/-- 'laws.FnExactDonorMend': WHATEVER THE INPUT: true; the input reads as it did. -/
def fnExactDonorMendSpec : ChangeSpec := { name := "fnExactDonorMend", fn := fun _ => fun
  | [d1, d2, d3, d4, d5] => { results := [.lit (.bool true)], args := [d1, d2, d3, d4, d5] }
  | _ => none }
def fnExactDonorMendRow : OpenClaim := { program := "ytgkaalonmkcclabgreat", sum := "f095350cd09e62d77444fc255fd3a6d8c64d38aadc8c0f58b7a3fb71b3983bf1", func := "loop.example/g00908/laws.FnExactDonorMend", spec := "fnExactDonorMend", unfollowed := true, recurses := true, apart := false }
def FnExactDonorMendSaid : Prop := fnExactDonorMendRow.holds Tryz.pinned (OpenSpec.ofChange fnExactDonorMendSpec)

/-- ITS FALSE NEIGHBOUR: 'it returns false'. Refute it at one input. -/
def fnExactDonorMendWrong : ChangeSpec := { name := "fnExactDonorMend", fn := fun _ => fun
  | [d1, d2, d3, d4, d5] => { results := [.lit (.bool false)], args := [d1, d2, d3, d4, d5] }
  | _ => none }
def FnExactDonorMendWrongFalsely : Prop := fnExactDonorMendRow.holds Tryz.pinned (OpenSpec.ofChange fnExactDonorMendWrong)

/- THE SECOND FORM. 'bulk': how many values and letters a reading holds, each counted each time it is reached (what is shared counts as often as it is met; a slice's spare places count too). A statement '..UptoSaid' is the law's where the arguments, and the package variables that the reading takes, are together of bulk at most 1048576: NARROWER than '..Said'. Prove '..Said' where nothing that the law and all that it calls make is longer than what came in: it says more and counts as full. Else prove '..UptoSaid'. A law counts once. -/
mutual
def uptoBulk {H : Type} : DataW H → Nat
  | .lit (.string bytes) => bytes.length + 1
  | .lit _ => 1
  | .nil => 1
  | .ptr d => uptoBulk d + 1
  | .slice elems spare => uptoBulkAll elems + uptoBulkAll spare + 1
  | .agg parts => uptoBulkAll parts + 1
  | .iface _ d => uptoBulk d + 1
  | .map entries => uptoBulkEntries entries + 1
  | .held _ => 1
def uptoBulkAll {H : Type} : List (DataW H) → Nat
  | [] => 0
  | d :: r => uptoBulk d + uptoBulkAll r
def uptoBulkEntries {H : Type} : List (Lit × DataW H) → Nat
  | [] => 0
  | x :: r => uptoBulkEntry x + uptoBulkEntries r
def uptoBulkEntry {H : Type} : Lit × DataW H → Nat
  | (.string bytes, d) => bytes.length + uptoBulk d + 1
  | (_, d) => uptoBulk d + 1
 end
def uptoSmall : (H : Type) → List (DataW H) → Bool := fun _ ds => decide (uptoBulkAll ds ≤ 1048576)
def OpenSpec.upto (s : _root_.Go.ChangeSpec) : _root_.Go.OpenSpec := { _root_.Go.OpenSpec.ofChange s with cond := some uptoSmall }

/-- 'laws.FnExactCheapestChange', WHERE WHAT IT READS IS OF BULK AT MOST 1048576: true; the input reads as it did. -/
def fnExactCheapestChangeUptoRow : OpenClaim := { program := "ytgkaalonmkcclabgreat", sum := "f095350cd09e62d77444fc255fd3a6d8c64d38aadc8c0f58b7a3fb71b3983bf1", func := "loop.example/g00908/laws.FnExactCheapestChange", spec := "fnExactCheapestChange", unfollowed := true, recurses := true, apart := false, narrowed := true }
def FnExactCheapestChangeUptoSaid : Prop := fnExactCheapestChangeUptoRow.holds Tryz.pinned (OpenSpec.upto fnExactCheapestChangeSpec)

/-- 'laws.FnExactMendValues', WHERE WHAT IT READS IS OF BULK AT MOST 1048576: true; the input reads as it did. -/
def fnExactMendValuesUptoRow : OpenClaim := { program := "ytgkaalonmkcclabgreat", sum := "f095350cd09e62d77444fc255fd3a6d8c64d38aadc8c0f58b7a3fb71b3983bf1", func := "loop.example/g00908/laws.FnExactMendValues", spec := "fnExactMendValues", unfollowed := true, recurses := true, apart := false, narrowed := true }
def FnExactMendValuesUptoSaid : Prop := fnExactMendValuesUptoRow.holds Tryz.pinned (OpenSpec.upto fnExactMendValuesSpec)

/-- 'laws.FnExactDonorMend', WHERE WHAT IT READS IS OF BULK AT MOST 1048576: true; the input reads as it did. -/
def fnExactDonorMendUptoRow : OpenClaim := { program := "ytgkaalonmkcclabgreat", sum := "f095350cd09e62d77444fc255fd3a6d8c64d38aadc8c0f58b7a3fb71b3983bf1", func := "loop.example/g00908/laws.FnExactDonorMend", spec := "fnExactDonorMend", unfollowed := true, recurses := true, apart := false, narrowed := true }
def FnExactDonorMendUptoSaid : Prop := fnExactDonorMendUptoRow.holds Tryz.pinned (OpenSpec.upto fnExactDonorMendSpec)

end Rows
end Go.Proofs.YtgkaalonmkcclabGreat
