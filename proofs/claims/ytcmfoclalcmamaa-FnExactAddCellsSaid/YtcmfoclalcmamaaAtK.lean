/-
  The walks of chapter 2: the values with an index; the program's, whole.
-/
import Derived.Test.YtcmfoclalcmamaaAtJ
namespace Go.Proofs.Ytcmfoclalcmamaa
open Go.RowKit
set_option maxRecDepth 100000

end Go.Proofs.Ytcmfoclalcmamaa
