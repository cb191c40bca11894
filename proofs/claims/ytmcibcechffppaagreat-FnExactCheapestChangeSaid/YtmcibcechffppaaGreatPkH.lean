import Derived.Test.YtmcibcechffppaaGreatPkG
namespace Go.Proofs.YtmcibcechffppaaGreat
open Go.ChangeShapes Go.WideShapes Go.ChangeAt Go.RowKit
set_option maxRecDepth 100000

end Go.Proofs.YtmcibcechffppaaGreat
