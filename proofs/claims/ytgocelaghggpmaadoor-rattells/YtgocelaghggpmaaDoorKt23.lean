/- Regions that draw their order and make a pair of words beside quiet operations. The product of two quotients (rat.times): walked over letters. The sum of two quotients (rat.sum): walked over letters. Products and sums of quotients (rat.times, rat.sum): what they answer is the exact one in its form. -/
import Derived.Test.YtgocelaghggpmaaDoorKt10
import Derived.Test.YtgocelaghggpmaaDoorKt21
namespace Go.Proofs.YtgocelaghggpmaaDoor
open Go.ChangeShapes Go.WideShapes Go.ChangeAt Go.RowKit
theorem grewW (w:World) (o:Obj):Below w.heap.size w (w.alloc o):=by go_grown
end Go.Proofs.YtgocelaghggpmaaDoor
