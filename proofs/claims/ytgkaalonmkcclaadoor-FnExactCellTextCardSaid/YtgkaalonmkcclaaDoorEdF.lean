/-
  The walks of chapter 5: is it an edit; levels of a set; do values fail an edit; the program's and the model's.
-/
import Derived.Test.YtgkaalonmkcclaaDoorEdI
namespace Go.Proofs.YtgkaalonmkcclaaDoor
open Go.RowKit
set_option maxRecDepth 100000

theorem ret_bbE {a b p q : Bool} (h : a = b) (k : p = q) : Ending.returned (.tuple #[.bool a, .bool p]) = .returned (.tuple #[.bool b, .bool q]) := by rw [h, k]
end Go.Proofs.YtgkaalonmkcclaaDoor
