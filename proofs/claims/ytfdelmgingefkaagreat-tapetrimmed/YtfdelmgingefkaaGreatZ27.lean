/- The reference's Mul: the exact product, rounded. The walk of the statement UlpProducts. The reference's Add and Sub: the exact sum, rounded; the walk of the statement UlpSums. -/
import Derived.Test.YtfdelmgingefkaaGreatZ26
import Derived.Test.YtfdelmgingefkaaGreatZ25
namespace Go.Proofs.YtfdelmgingefkaaGreat
open Go.ChangeShapes Go.WideShapes Go.ChangeAt Go.RowKit
def zminus (b:Nat):Nat:=if isZ b then 0 else negB b
end Go.Proofs.YtfdelmgingefkaaGreat
