/- The walks of the reference's Index and At. The walks of the reference's Split, Float and Int. -/
import Derived.Test.YtfdelmgingefkaaGreatZ02
import Derived.Test.YtfdelmgingefkaaGreatZ22
import Derived.Test.YtfdelmgingefkaaGreatZ11
namespace Go.Proofs.YtfdelmgingefkaaGreat
open Go.ChangeShapes Go.WideShapes Go.ChangeAt Go.RowKit
end Go.Proofs.YtfdelmgingefkaaGreat
