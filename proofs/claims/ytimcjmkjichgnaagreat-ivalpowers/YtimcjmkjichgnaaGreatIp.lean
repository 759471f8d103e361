/- The walk of Mul, of intervals that hold nought inside. -/
import Derived.Test.YtimcjmkjichgnaaGreatIo
namespace Go.Proofs.YtimcjmkjichgnaaGreat
open Go.ChangeShapes Go.WideShapes Go.ChangeAt Go.RowKit

end Go.Proofs.YtimcjmkjichgnaaGreat
