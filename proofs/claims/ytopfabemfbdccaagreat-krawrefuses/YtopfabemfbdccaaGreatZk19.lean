/- The reference's numbers M 2^E: the walks of Sign and level. The walk of the reference's Order. The reference's Order: what it answers. The reference's Add and Sub: the exact sum, rounded; the walk of the statement UlpSums. -/
import Derived.Test.YtopfabemfbdccaaGreatZk18
import Derived.Test.YtopfabemfbdccaaGreatZk06
import Derived.Test.YtopfabemfbdccaaGreatZk10
import Derived.Test.YtopfabemfbdccaaGreatZk02
namespace Go.Proofs.YtopfabemfbdccaaGreat
open Go.ChangeShapes Go.WideShapes Go.ChangeAt Go.RowKit
def sgnd (g:Bool) (A:Nat):Int:=if g then -(A:Int) else (A:Int)
def zminus (b:Nat):Nat:=if isZ b then 0 else negB b
end Go.Proofs.YtopfabemfbdccaaGreat
