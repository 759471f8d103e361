/- The reference's numbers of stage 11: sums and differences. -/
import Derived.Test.YtdnpoacjamkhkaaJb21
namespace Go.Proofs.Ytdnpoacjamkhkaa
open Go.ChangeShapes Go.WideShapes Go.ChangeAt Go.RowKit
def addV11 (aN aD bN bD:Int):Int×Int×Int:=if rightR aN aD&&rightR bN bD then ofV (decide (aN*bD+bN*aD<0)) (aN*bD+bN*aD).natAbs (aD.natAbs*bD.natAbs) else (0,0,1)
theorem ofV_sign {g:Bool} {n d:Nat} {z:Int} (hn:n=z.natAbs) (hg:z≠0→g=decide (z<0)):ofV g n d=ofV (decide (z<0)) z.natAbs d:=by
 subst hn
 by_cases c:z=0
 · unfold ofV
   rw [if_pos (by omega),if_pos (by omega)]
 · rw [hg c]
end Go.Proofs.Ytdnpoacjamkhkaa
