/- Whole numbers as floats: what is exact is rounded to itself, to whichever side; the walk of the statement UlpWhole. -/
import Derived.Test.YtmbjgicemblaaaaZb15
namespace Go.Proofs.Ytmbjgicemblaaaa
open Go.ChangeShapes Go.WideShapes Go.ChangeAt Go.RowKit
theorem both {k:Int} (h:-9218868437227405311≤k∧k≤9218868437227405311):(-9218868437227405312≤k∧k≤9218868437227405311)∧(-9218868437227405312≤-k∧-k≤9218868437227405311):=by omega
theorem addF_facts (a b:Nat) (d:Int):nanB (addF a b d)=false∧addF a b d≠9223372036854775808∧addF a b d<18446744073709551616:=by
 unfold addF
 exact roundN_facts _ _ _ d (sumM_lt (splitG a) (splitM a) (splitE a) (splitG b) (splitM b) (splitE b) (splitM_lt a) (splitM_lt b))
theorem addR_fin {a b:Nat} (d:Int) (fa:finB a=true) (fb:finB b=true):addR a b d=some (addF a b d):=by
 unfold addR
 rw [fin_not_nan fa,fin_not_nan fb,fa,fb,if_neg (by decide),if_pos (by decide)]
end Go.Proofs.Ytmbjgicemblaaaa
