/- The walks of the reference's below and same: a number held against an exact one. The reference's below and same: what they answer of an exact number. -/
import Derived.Test.YtfdelmgingefkaaGreatZ23
namespace Go.Proofs.YtfdelmgingefkaaGreat
open Go.ChangeShapes Go.WideShapes Go.ChangeAt Go.RowKit
end Go.Proofs.YtfdelmgingefkaaGreat
