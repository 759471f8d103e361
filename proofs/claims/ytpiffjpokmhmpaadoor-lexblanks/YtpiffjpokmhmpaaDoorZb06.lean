/- Whole numbers as floats: what is exact is rounded to itself, to whichever side; the walk of the statement UlpWhole. -/
import Derived.Test.YtpiffjpokmhmpaaDoorZb05
import Derived.Test.YtpiffjpokmhmpaaDoorZb01
import Derived.Test.YtpiffjpokmhmpaaDoorZb04
import Derived.WalkKit
import Derived.Deep.CutBlock
import Derived.Deep.CutRange
import Derived.Deep.LoopGhost
namespace Go.Proofs.YtpiffjpokmhmpaaDoor
open Go.ChangeShapes Go.WideShapes Go.ChangeAt Go.RowKit
theorem both {k:Int} (h:-9218868437227405311≤k∧k≤9218868437227405311):(-9218868437227405312≤k∧k≤9218868437227405311)∧(-9218868437227405312≤-k∧-k≤9218868437227405311):=by omega
end Go.Proofs.YtpiffjpokmhmpaaDoor
