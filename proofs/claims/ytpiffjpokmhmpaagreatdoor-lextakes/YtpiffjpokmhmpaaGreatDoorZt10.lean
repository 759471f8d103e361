/- The program's reading of digits (rat.leading). -/
import Derived.Test.YtpiffjpokmhmpaaGreatDoorZt03
import Derived.Test.YtpiffjpokmhmpaaGreatDoorZt09
namespace Go.Proofs.YtpiffjpokmhmpaaGreatDoor
open Go.ChangeShapes Go.WideShapes Go.ChangeAt Go.RowKit
theorem upto_ge (s:ByteArray) (k:Nat):k≤uptoN s k:=by unfold uptoN;omega
def ldN (s:ByteArray) (lim:Nat):Nat:=min lim (uptoN s 0)
set_option maxHeartbeats 2000000 in
theorem leading_w (s:ByteArray) (lim:Nat) (hl:lim≤1000) (hs:(s.size:Int)≤9223372036854775807) (w:World) :
   Calls Tryz.prog 59 #[.string s,.int .i64 (lim:Int)] w fun e w'=>e=.returned (.tuple #[.string (s.extract 0 (ldN s lim)),.string (s.extract (ldN s lim) s.size)])∧Below w.heap.size w w':=by
 obtain⟨u,hU⟩:∃u,Hid (uptoN s 0=u):=⟨_,rfl⟩
 obtain⟨n,hn⟩:∃n,Hid (ldN s lim=n):=⟨_,rfl⟩
 have HN:Hid (min lim u=n):=by show _=_;rw [←hU.out];exact hn.out
 rw [hn.out]
 clear hn
 go_enter Tryz.func59,Tryz.ntmps59
 go_upto_region 2 with fail
 go_loopg [6] s.size (fun G s1 wx=>∃i:Nat,s1=.int .i64 (i:Int)∧i≤s.size∧i+G=s.size∧i≤lim∧w=wx∧Hid (uptoN s i=u))
 case atStart=>exact⟨0,rfl,by omega,by omega,by omega,rfl,hU⟩
 case round =>
   clear hU
   obtain⟨i,rfl,hi,hG,hil,rfl,H⟩:=hrel
   have hil':(i:Int)≤(s.size:Int):=by omega
   by_cases c:i<s.size
   · have ci:(i:Int)<(s.size:Int):=by omega
     by_cases c2:i<lim
     · have ci2:(i:Int)<(lim:Int):=by omega
       by_cases d1:48≤(s[i].toNat:Int)
       · by_cases d2:(s[i].toNat:Int)≤57
         · have H2:Hid (uptoN s (i+1)=u):=by
             show _=_
             rw [←upto_step c (by unfold isDg;rw [decide_eq_true d1,decide_eq_true d2];rfl)]
             exact H.out
           clear H
           go_wp2_with fail
           (go_roundg (s.size-i-1)
            case measure=>omega
            case rel=>exact⟨i+1,by go_num,by omega,by omega,by omega,rfl,H2⟩)
         · have e:i=n:=by have h1:=H.out;have h2:=HN.out;rw [upto_stop c (by unfold isDg;rw [decide_eq_true d1,decide_eq_false d2];rfl)] at h1;omega
           subst e
           clear H HN
           go_wp2_with fail
           go_region
           all_goals
             go_wp2_with fail
             go_ret2
             exact⟨rfl,(Below.refl _ _).drew⟩
       · have e:i=n:=by have h1:=H.out;have h2:=HN.out;rw [upto_stop c (by unfold isDg;rw [decide_eq_false d1];rfl)] at h1;omega
         subst e
         clear H HN
         go_wp2_with fail
         go_region
         all_goals
           go_wp2_with fail
           go_ret2
           exact⟨rfl,(Below.refl _ _).drew⟩
     · have ci2:¬(i:Int)<(lim:Int):=by omega
       have e:i=n:=by have h1:=H.out;have h2:=HN.out;have h3:=upto_ge s i;omega
       subst e
       clear H HN
       go_wp2_with fail
       go_region
       all_goals
         go_wp2_with fail
         go_ret2
         exact⟨rfl,(Below.refl _ _).drew⟩
   · have ci:¬(i:Int)<(s.size:Int):=by omega
     have e:i=n:=by have h1:=H.out;have h2:=HN.out;rw [upto_end c] at h1;omega
     subst e
     clear H HN
     go_wp2_with fail
     go_region
     all_goals
       go_wp2_with fail
       go_ret2
       exact⟨rfl,(Below.refl _ _).drew⟩
end Go.Proofs.YtpiffjpokmhmpaaGreatDoor
