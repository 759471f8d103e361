/- The walk of the reference's Rounded. The reference's Rounded: the document's rounding. The reference's finite, inf and Whole. -/
import Derived.Test.YtfdelmgingefkaaGreatZ25
import Derived.Test.YtfdelmgingefkaaGreatZ07
namespace Go.Proofs.YtfdelmgingefkaaGreat
open Go.ChangeShapes Go.WideShapes Go.ChangeAt Go.RowKit
end Go.Proofs.YtfdelmgingefkaaGreat
