/- The reference's numbers of stage 11: digits of a text. Plain facts on the program's rounding, whatever is rounded: its three sides stand in order, no more than neighbours apart. Plain facts: what the program rounds an amount to is what the document asks for, of any exact amount that the parts stand for. Plain facts: numbers with signs, rounded down: the place of the greatest float that is not above; the greater the number, the greater the place. -/
import Derived.Test.YtgocelaghggpmaaGreatDoorKo03
import Derived.Test.YtgocelaghggpmaaGreatDoorKo01
namespace Go.Proofs.YtgocelaghggpmaaGreatDoor
open Go.ChangeShapes Go.WideShapes Go.ChangeAt Go.RowKit
def isDg (c:UInt8):Bool:=decide (48≤(c.toNat:Int))&&decide ((c.toNat:Int)≤57)
def uptoN (s:ByteArray) (k:Nat):Nat:=k+((s.data.toList.drop k).takeWhile isDg).length
theorem byte_drop {s:ByteArray} {k:Nat} (h:k<s.size):s.data.toList.drop k=s[k] :: s.data.toList.drop (k+1):=List.drop_eq_getElem_cons (by simpa using h)
theorem upto_end {s:ByteArray} {k:Nat} (h:¬k<s.size):uptoN s k=k:=by
 unfold uptoN
 rw [List.drop_of_length_le (by simp;omega)]
 rfl
theorem upto_stop {s:ByteArray} {k:Nat} (h:k<s.size) (d:isDg s[k]=false):uptoN s k=k:=by
 unfold uptoN
 rw [byte_drop h,List.takeWhile_cons,d]
 rfl
theorem upto_step {s:ByteArray} {k:Nat} (h:k<s.size) (d:isDg s[k]=true):uptoN s k=uptoN s (k+1):=by
 unfold uptoN
 rw [byte_drop h,List.takeWhile_cons,d,if_pos rfl,List.length_cons]
 omega
set_option maxHeartbeats 1000000 in
theorem upto_w (s:ByteArray) (k:Nat) (hk:k≤s.size) (hs:(s.size:Int)≤9223372036854775807) (w:World) :
   Calls Tryz.prog 33 #[.string s,.int .i64 (k:Int)] w fun e w'=>e=.returned (.int .i64 (uptoN s k:Int))∧w=w':=by
 have hU:∃u,Hid (uptoN s k=u):=⟨_,rfl⟩
 obtain⟨u,hU⟩:=hU
 rw [hU.out]
 go_enter Tryz.func33,Tryz.ntmps33
 go_upto_region 1 with fail
 go_loopg [1] (s.size-k) (fun G s1 wx=>∃i:Nat,s1=.int .i64 (i:Int)∧i≤s.size∧i+G=s.size∧w=wx∧Hid (uptoN s i=u))
 case atStart=>exact⟨k,rfl,hk,by omega,rfl,hU⟩
 case round =>
   clear hU
   obtain⟨i,rfl,hi,hG,rfl,H⟩:=hrel
   by_cases c:i<s.size
   · by_cases d1:48≤(s[i].toNat:Int)
     · by_cases d2:(s[i].toNat:Int)≤57
       · have H2:Hid (uptoN s (i+1)=u):=by
           show _=_
           rw [←upto_step c (by unfold isDg;rw [decide_eq_true d1,decide_eq_true d2];rfl)]
           exact H.out
         have ci:(i:Int)<(s.size:Int):=by omega
         clear H
         go_wp2_with fail
         (go_roundg (s.size-i-1)
          case measure=>omega
          case rel=>exact⟨i+1,by go_num,by omega,by omega,rfl,H2⟩)
       · have e:i=u:=by rw [←H.out,upto_stop c (by unfold isDg;rw [decide_eq_true d1,decide_eq_false d2];rfl)]
         subst e
         have ci:(i:Int)<(s.size:Int):=by omega
         clear H
         go_wp2_with fail
         go_ret
         exact⟨rfl,rfl⟩
     · have e:i=u:=by rw [←H.out,upto_stop c (by unfold isDg;rw [decide_eq_false d1];rfl)]
       subst e
       have ci:(i:Int)<(s.size:Int):=by omega
       clear H
       go_wp2_with fail
       go_ret
       exact⟨rfl,rfl⟩
   · have e:i=u:=by rw [←H.out,upto_end c]
     subst e
     have ci:¬(i:Int)<(s.size:Int):=by omega
     clear H
     go_wp2_with fail
     go_ret
     exact⟨rfl,rfl⟩
end Go.Proofs.YtgocelaghggpmaaGreatDoor
namespace Go.Proofs.YtgocelaghggpmaaGreatDoor
end Go.Proofs.YtgocelaghggpmaaGreatDoor
namespace Go.Proofs.YtgocelaghggpmaaGreatDoor
end Go.Proofs.YtgocelaghggpmaaGreatDoor
namespace Go.Proofs.YtgocelaghggpmaaGreatDoor
def V (k:Int):Int:=if k<0 then -(val (-k).toNat:Int) else (val k.toNat:Int)
end Go.Proofs.YtgocelaghggpmaaGreatDoor
