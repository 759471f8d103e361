/- The walk of Div, of intervals that hold some number. -/
import Derived.Test.YtddkojmdhckleaaIq
namespace Go.Proofs.Ytddkojmdhckleaa
open Go.ChangeShapes Go.WideShapes Go.ChangeAt Go.RowKit

end Go.Proofs.Ytddkojmdhckleaa
