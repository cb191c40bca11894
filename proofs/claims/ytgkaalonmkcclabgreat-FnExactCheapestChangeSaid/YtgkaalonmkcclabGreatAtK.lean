/-
  The walks of chapter 2: the values with an index; the program's, whole.
-/
import Derived.Test.YtgkaalonmkcclabGreatAtJ
namespace Go.Proofs.YtgkaalonmkcclabGreat
open Go.RowKit
set_option maxRecDepth 100000

end Go.Proofs.YtgkaalonmkcclabGreat
