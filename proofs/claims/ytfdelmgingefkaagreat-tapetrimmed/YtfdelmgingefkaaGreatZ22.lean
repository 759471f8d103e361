/- The walks of the reference's Product and Sum. The walk of the reference's Sum. The reference's numbers by what they are worth: Sign, Order, Product and Sum again. -/
import Derived.Test.YtfdelmgingefkaaGreatZ21
namespace Go.Proofs.YtfdelmgingefkaaGreat
open Go.ChangeShapes Go.WideShapes Go.ChangeAt Go.RowKit
end Go.Proofs.YtfdelmgingefkaaGreat
