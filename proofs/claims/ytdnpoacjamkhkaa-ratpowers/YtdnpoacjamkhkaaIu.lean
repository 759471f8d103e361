/- The walk of Div, of intervals that hold some number. -/
import Derived.Test.YtdnpoacjamkhkaaIq
namespace Go.Proofs.Ytdnpoacjamkhkaa
open Go.ChangeShapes Go.WideShapes Go.ChangeAt Go.RowKit

end Go.Proofs.Ytdnpoacjamkhkaa
