/- The reference's numbers of stage 11: the number that digits write. -/
import Derived.Test.YtpiffjpokmhmpaaDoorZb03
import Derived.Deep.RegionWith
import Derived.Test.YtpiffjpokmhmpaaDoorZb02
namespace Go.Proofs.YtpiffjpokmhmpaaDoor
open Go.ChangeShapes Go.WideShapes Go.ChangeAt Go.RowKit
def valN (l:List UInt8):Nat:=l.foldl (fun n c=>n*10+(c.toNat-48)) 0
theorem valN_snoc (l:List UInt8) (c:UInt8):valN (l++[c])=valN l*10+(c.toNat-48):=by
 unfold valN
 rw [List.foldl_append]
 rfl
end Go.Proofs.YtpiffjpokmhmpaaDoor
