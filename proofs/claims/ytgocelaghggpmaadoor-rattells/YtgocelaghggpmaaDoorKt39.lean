/- The reference's Mul: the exact product, rounded. The walk of the statement UlpProducts. -/
import Derived.Test.YtgocelaghggpmaaDoorKt35
import Derived.Test.YtgocelaghggpmaaDoorKt33
namespace Go.Proofs.YtgocelaghggpmaaDoor
open Go.ChangeShapes Go.WideShapes Go.ChangeAt Go.RowKit
theorem ofKey_key {r:Nat} (hr:r<18446744073709551616) (hz:r≠9223372036854775808):ofKey (key r)=r:=by
 unfold key ofKey
 by_cases h:r<9223372036854775808
 · rw [if_pos h,if_neg (by omega)];omega
 · rw [if_neg h,if_pos (by omega)];omega
end Go.Proofs.YtgocelaghggpmaaDoor
