/- The walk of Div, of intervals that hold some number. -/
import Derived.Test.YtmbjgicemblaaaaIq
namespace Go.Proofs.Ytmbjgicemblaaaa
open Go.ChangeShapes Go.WideShapes Go.ChangeAt Go.RowKit

end Go.Proofs.Ytmbjgicemblaaaa
