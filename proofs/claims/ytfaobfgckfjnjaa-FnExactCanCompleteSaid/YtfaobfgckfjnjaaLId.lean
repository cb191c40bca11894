/- The law of CanComplete: for every slice of structs of a string and an integer, every slice of such structs of a slice of integers, every slice of integers, every slice of integers, the program's CanComplete answers as the model's, nothing that was there is written, and the arguments read as before. No condition. -/
import Derived.Test.YtfaobfgckfjnjaaImE
import Derived.Test.YtfaobfgckfjnjaaEdN
namespace Go.Proofs.Ytfaobfgckfjnjaa
open Go.ChangeShapes Go.WideShapes Go.ChangeAt Go.RowKit
set_option maxRecDepth 100000

end Go.Proofs.Ytfaobfgckfjnjaa
