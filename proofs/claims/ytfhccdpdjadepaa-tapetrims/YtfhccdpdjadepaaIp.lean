/- The walk of Mul, of intervals that hold nought inside. -/
import Derived.Test.YtfhccdpdjadepaaIo
namespace Go.Proofs.Ytfhccdpdjadepaa
open Go.ChangeShapes Go.WideShapes Go.ChangeAt Go.RowKit

end Go.Proofs.Ytfhccdpdjadepaa
