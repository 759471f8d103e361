/- The walk of Div, of intervals that hold some number. -/
import Derived.Test.YtilacmigljddfaaIq
namespace Go.Proofs.Ytilacmigljddfaa
open Go.ChangeShapes Go.WideShapes Go.ChangeAt Go.RowKit

end Go.Proofs.Ytilacmigljddfaa
