/- The reference's numbers of stage 11: Add and Sub, whole. -/
import Derived.Test.YtgocelaghggpmaaDoorKt26
namespace Go.Proofs.YtgocelaghggpmaaDoor
open Go.ChangeShapes Go.WideShapes Go.ChangeAt Go.RowKit
theorem rightR_N {N D:Int} (h:rightR N D=true):N≠-9223372036854775808:=by
 unfold rightR at h
 simp only [Bool.and_eq_true,decide_eq_true_eq] at h
 exact h.2.1
end Go.Proofs.YtgocelaghggpmaaDoor
