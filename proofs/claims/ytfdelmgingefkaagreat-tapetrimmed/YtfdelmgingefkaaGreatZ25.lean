/- Plain facts: what the program rounds parts to, to any side, is what the document's words ask of the exact number: the place below, whether it is it, the middle. Plain facts: sums, products, quotients and roots of the program are the exact ones, rounded by the document's words, to any side. The walk of the reference's Down: the place of the greatest float that is not above an exact number. The walks of the reference's grid and Rounded: the document's rounding of an exact number. -/
import Derived.Test.YtfdelmgingefkaaGreatZ11
import Derived.Test.YtfdelmgingefkaaGreatZ24
namespace Go.Proofs.YtfdelmgingefkaaGreat
end Go.Proofs.YtfdelmgingefkaaGreat
namespace Go.Proofs.YtfdelmgingefkaaGreat
end Go.Proofs.YtfdelmgingefkaaGreat
namespace Go.Proofs.YtfdelmgingefkaaGreat
open Go.ChangeShapes Go.WideShapes Go.ChangeAt Go.RowKit
end Go.Proofs.YtfdelmgingefkaaGreat
