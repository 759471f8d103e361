/- The program's Read, whole (over what strconv.ParseInt answers). -/
import Derived.Test.YtgocelaghggpmaaGreatDoorKo19
namespace Go.Proofs.YtgocelaghggpmaaGreatDoor
open Go.ChangeShapes Go.WideShapes Go.ChangeAt Go.RowKit
theorem vlN_take (l:List UInt8):∀n,n≤l.length→vlN (fun j=>(l.getD j 0).toNat) n=valN (l.take n)
 | 0,_=>by rw [List.take_zero];rfl
 | n+1,h=>by
   have hl:n<l.length:=by omega
   have e:(l.getD n 0)=l[n]:=by simp [List.getD,hl]
   rw [List.take_succ_eq_append_getElem hl,valN_snoc]
   unfold vlN
   rw [vlN_take l n (by omega),e,Nat.mul_comm]
theorem vlN_text (s:ByteArray):vlN (bytN s) s.size=valN s.data.toList:=by
 have h:s.size=s.data.toList.length:=by simp
 have:=vlN_take s.data.toList s.size (by omega)
 rw [List.take_of_length_le (by omega)] at this
 exact this
theorem app_dg {a d:ByteArray} (h:∀i (h:i<a.size),isDg a[i]=true) (k:∀i (h:i<d.size),isDg d[i]=true):∀i (h:i<(a++d).size),isDg (a++d)[i]=true:=by
 intro i hi
 have sz:(a++d).size=a.size+d.size:=ByteArray.size_append
 by_cases c:i<a.size
 · rw [ByteArray.getElem_append_left c]
   exact h i c
 · rw [ByteArray.getElem_append_right (by omega)]
   exact k _ (by omega)
def readV (s:ByteArray):Int×Int×Int :=
 if ldN s 40≠0∧(fracB (s.extract (ldN s 40) s.size)).ok=true∧(expB (fracB (s.extract (ldN s 40) s.size)).r).ok=true∧(expB (fracB (s.extract (ldN s 40) s.size)).r).r.size=0 then
   decV (valN (s.extract 0 (ldN s 40)++(fracB (s.extract (ldN s 40) s.size)).d).data.toList) ((expB (fracB (s.extract (ldN s 40) s.size)).r).e-((fracB (s.extract (ldN s 40) s.size)).d.size:Int))
 else (0,0,110)
end Go.Proofs.YtgocelaghggpmaaGreatDoor
