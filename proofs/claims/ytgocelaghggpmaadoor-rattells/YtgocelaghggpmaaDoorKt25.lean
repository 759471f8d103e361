/- The reference's numbers of stage 11: products, quotients, powers, the order. -/
import Derived.Test.YtgocelaghggpmaaDoorKt20
namespace Go.Proofs.YtgocelaghggpmaaDoor
open Go.ChangeShapes Go.WideShapes Go.ChangeAt Go.RowKit
theorem rightR_D {N D:Int} (h:rightR N D=true):1≤D:=by
 unfold rightR at h
 simp only [Bool.and_eq_true,decide_eq_true_eq] at h
 exact h.1
end Go.Proofs.YtgocelaghggpmaaDoor
