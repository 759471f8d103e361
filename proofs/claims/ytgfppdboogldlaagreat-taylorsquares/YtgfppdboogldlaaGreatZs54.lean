/- An interval as an argument: opened and shut. -/
import Derived.Test.YtgfppdboogldlaaGreatZs06
import Derived.ChangeSame
import Derived.JoinedOf
import Derived.JoinedAt
import Derived.RowKit3
namespace Go.Proofs.YtgfppdboogldlaaGreat
open Go.ChangeShapes Go.WideShapes Go.ChangeAt Go.RowKit
theorem f64_lt {b:Nat} (h:(Lit.float .f64 b).wf=true):b<18446744073709551616:=by simpa [Lit.wf] using h
end Go.Proofs.YtgfppdboogldlaaGreat
