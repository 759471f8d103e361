/- The walks of leastQuotient and shrink. -/
import Derived.Test.YtdnpoacjamkhkaaIo
namespace Go.Proofs.Ytdnpoacjamkhkaa
open Go.ChangeShapes Go.WideShapes Go.ChangeAt Go.RowKit

/-- The quotient, rounded down, where there is one. -/
def divD (a b : Nat) : Nat := (divR a b (-1)).getD 0
def lqP (a dl dh : Nat) : Nat := if leB 0 a then divD a dh else if eqB dl 0 then infI (-1) else divD a dl

end Go.Proofs.Ytdnpoacjamkhkaa
