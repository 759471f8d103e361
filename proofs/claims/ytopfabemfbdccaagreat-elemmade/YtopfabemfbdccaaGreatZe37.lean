/- Powers of intervals: what the program answers and what the reference does are the same, word for word. The walks of the program's and of the reference's powers of intervals. Powers of intervals: the program's and the reference's answer the same function, at every number. -/
import Derived.Test.YtopfabemfbdccaaGreatZe34
import Derived.Test.YtopfabemfbdccaaGreatZe36
namespace Go.Proofs.YtopfabemfbdccaaGreat
open Go.ChangeShapes Go.WideShapes Go.ChangeAt Go.RowKit
end Go.Proofs.YtopfabemfbdccaaGreat
