/-
  The walks of chapter 2: the values with an index; the program's, whole.
-/
import Derived.Test.YtgkaalonmkcclabAtJ
namespace Go.Proofs.Ytgkaalonmkcclab
open Go.RowKit
set_option maxRecDepth 100000

end Go.Proofs.Ytgkaalonmkcclab
