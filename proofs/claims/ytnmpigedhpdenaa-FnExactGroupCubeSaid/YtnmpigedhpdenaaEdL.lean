/-
  The laws' helpers on edits (a struct of one slice of integers): the size, a copy, a comparison, marks and their test; an edit that comes in.
-/
import Derived.Test.YtnmpigedhpdenaaGeoL
namespace Go.Proofs.Ytnmpigedhpdenaa
open Go.ChangeShapes Go.WideShapes Go.ChangeAt Go.RowKit
open Go.Joins Go.Deep
set_option maxRecDepth 100000

/-- An edit that the law has copied. -/
def EdPost (G : List Int) (w : World) (e : Ending) (w' : World) : Prop :=
  ∃ g, e = .returned (.agg #[.slice (some ⟨g, 0, none⟩) G.length G.length]) ∧ w'.ownsRow w.heap.size 3 1 (.slice (some ⟨g, 0, none⟩) G.length G.length) G.length (iC G) ∧ Below w.heap.size w w'
/-- The size of an edit, in words that go on. -/
def SzP (left : Int) (len : Nat) (w : World) (e : Ending) (w' : World) : Prop := ∃ r : Int, e = .returned (.int .i64 r) ∧ r ≤ left ∧ -1 ≤ r ∧ (0 ≤ r → r + len = left) ∧ Below w.heap.size w w'
end Go.Proofs.Ytnmpigedhpdenaa
