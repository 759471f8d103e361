/- The walks of the reference's least, great, over and Div of intervals; IvalQuotients' walk. -/
import Derived.Test.YtfdelmgingefkaaGreatZ29
import Derived.Test.YtfdelmgingefkaaGreatZ31
namespace Go.Proofs.YtfdelmgingefkaaGreat
open Go.ChangeShapes Go.WideShapes Go.ChangeAt Go.RowKit
end Go.Proofs.YtfdelmgingefkaaGreat
