/- The reference's numbers of stage 11: Add and Sub, whole. -/
import Derived.Test.YtdnpoacjamkhkaaJb22
namespace Go.Proofs.Ytdnpoacjamkhkaa
open Go.ChangeShapes Go.WideShapes Go.ChangeAt Go.RowKit
def subV11 (aN aD bN bD:Int):Int×Int×Int:=if rightR bN bD then addV11 aN aD (-bN) bD else (0,0,1)
theorem rightR_N {N D:Int} (h:rightR N D=true):N≠-9223372036854775808:=by
 unfold rightR at h
 simp only [Bool.and_eq_true,decide_eq_true_eq] at h
 exact h.2.1
end Go.Proofs.Ytdnpoacjamkhkaa
