/- The reference's numbers of stage 11: products, quotients, powers, the order. -/
import Derived.Test.YtdnpoacjamkhkaaJb17
namespace Go.Proofs.Ytdnpoacjamkhkaa
open Go.ChangeShapes Go.WideShapes Go.ChangeAt Go.RowKit
def mulV11 (aN aD bN bD:Int):Int×Int×Int:=if rightR aN aD&&rightR bN bD then ofV (!(decide (aN<0)==decide (bN<0))) (aN.natAbs*bN.natAbs) (aD.natAbs*bD.natAbs) else (0,0,1)
theorem rightR_D {N D:Int} (h:rightR N D=true):1≤D:=by
 unfold rightR at h
 simp only [Bool.and_eq_true,decide_eq_true_eq] at h
 exact h.1
def divV11 (aN aD bN bD:Int):Int×Int×Int:=if rightR aN aD&&rightR bN bD then (if bN=0 then (0,0,6) else ofV (!(decide (aN<0)==decide (bN<0))) (aN.natAbs*bD.natAbs) (aD.natAbs*bN.natAbs)) else (0,0,1)
end Go.Proofs.Ytdnpoacjamkhkaa
