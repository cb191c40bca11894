/-
  Is a number among those of a list: the walks, the model's and the program's.
-/
import Derived.Test.YtpmbenedeakieabDoorEdV
namespace Go.Proofs.YtpmbenedeakieabDoor
open Go.RowKit
set_option maxRecDepth 100000

/-- What slices.Index tells of a list and a number. -/
def ixP (L : List Int) (n k : Int) : Prop := -1 ≤ k ∧ k < 1048577 ∧ decide (0 ≤ k) = L.contains n
end Go.Proofs.YtpmbenedeakieabDoor
