/-
  The walks of chapter 2: the values with an index; the program's, whole.
-/
import Derived.Test.YtmcibcechffppaaAtJ
namespace Go.Proofs.Ytmcibcechffppaa
open Go.RowKit
set_option maxRecDepth 100000

end Go.Proofs.Ytmcibcechffppaa
