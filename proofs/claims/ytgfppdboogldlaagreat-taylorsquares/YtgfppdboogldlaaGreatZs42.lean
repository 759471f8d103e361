/- Slices of the reference's numbers, and of rows of them, that a call makes: one more at their end. -/
import Derived.Test.YtgfppdboogldlaaGreatZs15
import Derived.Handy
namespace Go.Proofs.YtgfppdboogldlaaGreat
open Go.ChangeShapes Go.WideShapes Go.ChangeAt Go.RowKit
structure Nv where
 g:Bool
 a:Option Addr
 l:Nat
 c:Nat
 e:Int
def Nv.val (z:Nv):Value:=.agg #[.bool z.g,.slice z.a z.l z.c,.int .i64 z.e]
end Go.Proofs.YtgfppdboogldlaaGreat
