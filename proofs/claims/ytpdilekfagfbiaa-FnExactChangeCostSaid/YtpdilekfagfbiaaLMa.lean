/- The law of ChangeCost: for every slice of structs of a string and an integer, every slice of integers, every slice of integers, every slice of integers, the program's ChangeCost answers as the model's, nothing that was there is written, and the arguments read as before. No condition. -/
import Derived.Test.YtpdilekfagfbiaaMdA
import Derived.Test.YtpdilekfagfbiaaRecM
namespace Go.Proofs.Ytpdilekfagfbiaa
open Go.ChangeShapes Go.WideShapes Go.ChangeAt Go.RowKit
set_option maxRecDepth 100000

end Go.Proofs.Ytpdilekfagfbiaa
