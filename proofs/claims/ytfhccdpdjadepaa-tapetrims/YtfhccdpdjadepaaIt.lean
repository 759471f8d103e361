/- The walk of Div, of intervals that hold some number. -/
import Derived.Test.YtfhccdpdjadepaaIq
namespace Go.Proofs.Ytfhccdpdjadepaa
open Go.ChangeShapes Go.WideShapes Go.ChangeAt Go.RowKit

end Go.Proofs.Ytfhccdpdjadepaa
