/- The walks of the reference's wider and Mul of intervals, of its amounts and of its square; IvalProducts' walk. -/
import Derived.Test.YtimcjmkjichgnaaGreatKd
import Derived.Test.YtimcjmkjichgnaaGreatKp
import Derived.Test.YtimcjmkjichgnaaGreatTl
namespace Go.Proofs.YtimcjmkjichgnaaGreat
open Go.ChangeShapes Go.WideShapes Go.ChangeAt Go.RowKit

end Go.Proofs.YtimcjmkjichgnaaGreat
