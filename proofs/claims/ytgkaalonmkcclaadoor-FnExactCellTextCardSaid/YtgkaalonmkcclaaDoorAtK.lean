/-
  The walks of chapter 2: the values with an index; the program's, whole.
-/
import Derived.Test.YtgkaalonmkcclaaDoorAtJ
namespace Go.Proofs.YtgkaalonmkcclaaDoor
open Go.RowKit
set_option maxRecDepth 100000

end Go.Proofs.YtgkaalonmkcclaaDoor
