/- The reference's numbers M 2^E: the walks of Sign and level. The walk of the reference's Order. The reference's Order: what it answers. The reference's numbers of stage 11: digits of a text. -/
import Derived.Test.YtgocelaghggpmaaDoorKa02
namespace Go.Proofs.YtgocelaghggpmaaDoor
open Go.ChangeShapes Go.WideShapes Go.ChangeAt Go.RowKit
def sgnd (g:Bool) (A:Nat):Int:=if g then -(A:Int) else (A:Int)
theorem bitsN_le {m K:Nat} (h:m<2^K):bitsN m≤K:=by
 rcases Nat.eq_zero_or_pos m with c | c
 · subst c;simp [bitsN]
 · obtain⟨b,hb,b1,b2⟩:=bitsN_low (show m≠0 by omega)
   have:=(Nat.pow_lt_pow_iff_right (show 1<2 by omega)).1 (Nat.lt_of_le_of_lt b1 h)
   omega
def isDg (c:UInt8):Bool:=decide (48≤(c.toNat:Int))&&decide ((c.toNat:Int)≤57)
def uptoN (s:ByteArray) (k:Nat):Nat:=k+((s.data.toList.drop k).takeWhile isDg).length
theorem byte_drop {s:ByteArray} {k:Nat} (h:k<s.size):s.data.toList.drop k=s[k] :: s.data.toList.drop (k+1):=List.drop_eq_getElem_cons (by simpa using h)
theorem upto_end {s:ByteArray} {k:Nat} (h:¬k<s.size):uptoN s k=k:=by
 unfold uptoN
 rw [List.drop_of_length_le (by simp;omega)]
 rfl
theorem upto_stop {s:ByteArray} {k:Nat} (h:k<s.size) (d:isDg s[k]=false):uptoN s k=k:=by
 unfold uptoN
 rw [byte_drop h,List.takeWhile_cons,d]
 rfl
theorem upto_step {s:ByteArray} {k:Nat} (h:k<s.size) (d:isDg s[k]=true):uptoN s k=uptoN s (k+1):=by
 unfold uptoN
 rw [byte_drop h,List.takeWhile_cons,d,if_pos rfl,List.length_cons]
 omega
end Go.Proofs.YtgocelaghggpmaaDoor
