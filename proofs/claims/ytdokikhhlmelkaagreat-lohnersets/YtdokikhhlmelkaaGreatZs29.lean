/- Plain facts on powers: products, one by one, rounded to a side; the reference's amounts. -/
import Derived.Test.YtdokikhhlmelkaaGreatZs18
namespace Go.Proofs.YtdokikhhlmelkaaGreat
open Go.ChangeShapes Go.WideShapes Go.ChangeAt Go.RowKit
end Go.Proofs.YtdokikhhlmelkaaGreat
