/- The reference's numbers M 2^E: the walks of Sign and level. The walk of the reference's Order. The reference's Order: what it answers. The reference's numbers of stage 11: digits of a text. The walks of counted, Hull and Meet. The walks of Meet, of the laws' hull, and of Add and Mul with an interval that holds nothing. Plain facts: hulls hold both, meets lie in both and hold just what both hold. What is taken off itself holds nought, what is divided by itself one; negatives twice; the least amount is not above the greatest. A region that draws its order, whose callees make memory of their own but change none: one walk, in the text's order, over all worlds that are as the first one was below its end. The walk of the statement IvalLattice: its two variables. IvalLattice: for every two intervals and every float64 the statement's answer is true. The reference's numbers of stage 11: what is left by a divisor, how often it is in. The reference's numbers of stage 11: how often a divisor is in a number, the greatest common divisor, amounts. -/
import Derived.Test.YtgocelaghggpmaaDoorChecked
import Derived.Lib.Strings
import Derived.Lib.Slices
import Derived.Lib.Small
import Derived.Lib.Walk
import Derived.Lib.BitFns
import Derived.KernelRfl
import Derived.WalkKit
import Derived.Laws.Cover2
import Derived.Laws.FloatArith
import Derived.Laws.BitsAllLaws
import Derived.Test.YtgocelaghggpmaaDoorRows
import Derived.ProofKit
import Derived.OpenShut
import Derived.WalkSpells
import Derived.WalkLawsBesides
import Derived.Laws.Externs
import Derived.Laws.Bits64b
import Derived.Handy
import Derived.Deep.RegionWith
import Derived.Deep.QuietTactic
import Derived.BigQuiet
import Derived.Deep.RegionHeld3
import Derived.Deep.CutRange
import Derived.Deep.LoopGhost
import Derived.Deep.CutBlock
import Derived.WalkSmall
import Derived.Deep.Quiet
import Derived.StillTail
import Derived.Lib.ConvBytes
import Derived.Lib.AtoiErrMem
import Derived.Test.YtgocelaghggpmaaDoorShelf
import Derived.Lib.ParseIntBCases
import Derived.Deep.Cut
import Derived.LaidMore
import Derived.Stop.LaidErr
import Derived.Lib.SmallJoins
import Derived.Test.YtgocelaghggpmaaDoorKa01
import Derived.Test.YtgocelaghggpmaaDoorKa02
import Derived.Test.YtgocelaghggpmaaDoorKa03
import Derived.Test.YtgocelaghggpmaaDoorKa04
import Derived.Test.YtgocelaghggpmaaDoorKa05
import Derived.Test.YtgocelaghggpmaaDoorKa06
import Derived.Test.YtgocelaghggpmaaDoorKa07
import Derived.Test.YtgocelaghggpmaaDoorKa08
import Derived.Test.YtgocelaghggpmaaDoorKa09
import Derived.Test.YtgocelaghggpmaaDoorKa10
import Derived.Test.YtgocelaghggpmaaDoorKa11
import Derived.Test.YtgocelaghggpmaaDoorKa12
import Derived.Test.YtgocelaghggpmaaDoorKa13
import Derived.Test.YtgocelaghggpmaaDoorKa14
import Derived.Test.YtgocelaghggpmaaDoorKa15
import Derived.Test.YtgocelaghggpmaaDoorKa16
import Derived.Test.YtgocelaghggpmaaDoorKa17
import Derived.Test.YtgocelaghggpmaaDoorKa18
import Derived.Test.YtgocelaghggpmaaDoorKa19
import Derived.Test.YtgocelaghggpmaaDoorKa20
import Derived.Test.YtgocelaghggpmaaDoorKa21
import Derived.Test.YtgocelaghggpmaaDoorKa22
import Derived.Test.YtgocelaghggpmaaDoorKa23
import Derived.Test.YtgocelaghggpmaaDoorKa24
import Derived.Test.YtgocelaghggpmaaDoorKa25
import Derived.Test.YtgocelaghggpmaaDoorKa26
import Derived.Test.YtgocelaghggpmaaDoorKa27
import Derived.Test.YtgocelaghggpmaaDoorKa28
import Derived.Test.YtgocelaghggpmaaDoorKa29
import Derived.Test.YtgocelaghggpmaaDoorKa30
import Derived.Test.YtgocelaghggpmaaDoorKa31
import Derived.Test.YtgocelaghggpmaaDoorKa32
import Derived.Test.YtgocelaghggpmaaDoorKa33
import Derived.Test.YtgocelaghggpmaaDoorKa34
import Derived.Test.YtgocelaghggpmaaDoorKa35
import Derived.Test.YtgocelaghggpmaaDoorKr02
namespace Go.Proofs.YtgocelaghggpmaaDoor
open Go.ChangeShapes Go.WideShapes Go.ChangeAt Go.RowKit
theorem BigIs.shape {w:World} {v:Value} {n:Nat} (h:BigIs w v n):∃ao l cap,v=.slice ao l cap∧(l=0↔n=0):=by
 obtain⟨ds,d1,d2,rfl,hr⟩:=h
 obtain⟨ao,cap,rfl, -⟩:=hr.open_
 exact⟨ao,ds.length,cap,rfl,d2.zero.symm⟩
set_option maxHeartbeats 1000000 in
theorem upto_w (s:ByteArray) (k:Nat) (hk:k≤s.size) (hs:(s.size:Int)≤9223372036854775807) (w:World) :
   Calls Tryd.prog 23 #[.string s,.int .i64 (k:Int)] w fun e w'=>e=.returned (.int .i64 (uptoN s k:Int))∧w=w':=by
 have hU:∃u,Hid (uptoN s k=u):=⟨_,rfl⟩
 obtain⟨u,hU⟩:=hU
 rw [hU.out]
 go_enter Tryd.func23,Tryd.ntmps23
 go_upto_region 1 with fail
 go_loopg [1] (s.size-k) (fun G s1 wx=>∃i:Nat,s1=.int .i64 (i:Int)∧i≤s.size∧i+G=s.size∧w=wx∧Hid (uptoN s i=u))
 case atStart=>exact⟨k,rfl,hk,by omega,rfl,hU⟩
 case round =>
   clear hU
   obtain⟨i,rfl,hi,hG,rfl,H⟩:=hrel
   by_cases c:i<s.size
   · by_cases d1:48≤(s[i].toNat:Int)
     · by_cases d2:(s[i].toNat:Int)≤57
       · have H2:Hid (uptoN s (i+1)=u):=by
           show _=_
           rw [←upto_step c (by unfold isDg;rw [decide_eq_true d1,decide_eq_true d2];rfl)]
           exact H.out
         have ci:(i:Int)<(s.size:Int):=by omega
         clear H
         go_wp2_with fail
         (go_roundg (s.size-i-1)
          case measure=>omega
          case rel=>exact⟨i+1,by go_num,by omega,by omega,rfl,H2⟩)
       · have e:i=u:=by rw [←H.out,upto_stop c (by unfold isDg;rw [decide_eq_true d1,decide_eq_false d2];rfl)]
         subst e
         have ci:(i:Int)<(s.size:Int):=by omega
         clear H
         go_wp2_with fail
         go_ret
         exact⟨rfl,rfl⟩
     · have e:i=u:=by rw [←H.out,upto_stop c (by unfold isDg;rw [decide_eq_false d1];rfl)]
       subst e
       have ci:(i:Int)<(s.size:Int):=by omega
       clear H
       go_wp2_with fail
       go_ret
       exact⟨rfl,rfl⟩
   · have e:i=u:=by rw [←H.out,upto_end c]
     subst e
     have ci:¬(i:Int)<(s.size:Int):=by omega
     clear H
     go_wp2_with fail
     go_ret
     exact⟨rfl,rfl⟩
instance (w0:World):Nonempty (Behind w0):=⟨⟨w0,Below.refl _ _⟩⟩
theorem top_bits {a b:Nat} (hb:b≠0) (h:bitsN b≤bitsN a):a<b*2^(bitsN a-bitsN b+1):=by
 obtain⟨t,e,h1,h2⟩:=bitsN_low hb
 have ha:a≠0:=by rintro rfl;have:bitsN 0=0:=rfl;omega
 obtain⟨s,f, -,h4⟩:=bitsN_low ha
 rw [e,f] at h ⊢
 have:2^t*2^(s+1-(t+1)+1)≤b*2^(s+1-(t+1)+1):=Nat.mul_le_mul_right _ h1
 rw [←Nat.pow_add,show t+(s+1-(t+1)+1)=s+1 by omega] at this
 omega
theorem less_bits {a b:Nat} (h:bitsN a<bitsN b):a<b:=by
 have hb:b≠0:=by rintro rfl;have:bitsN 0=0:=rfl;omega
 obtain⟨t,e,h1,h2⟩:=bitsN_low hb
 by_cases ha:a=0
 · omega
 obtain⟨s,f, -,h4⟩:=bitsN_low ha
 have:2^(s+1)≤2^t:=Nat.pow_le_pow_right (by omega) (by omega)
 omega
theorem cmpN_le {m n:Nat} (h:m≤n):cmpN m n≤0:=by unfold cmpN;split <;> (try split) <;> omega
theorem cmpN_nle {m n:Nat} (h:¬m≤n):¬cmpN m n≤0:=by unfold cmpN;split <;> (try split) <;> omega
theorem div_start {a b:Nat} (hb:b≠0):a<b*2^((bitsN a:Int)-(bitsN b:Int)+1).toNat:=by
 by_cases c:bitsN b≤bitsN a
 · rw [show ((bitsN a:Int)-(bitsN b:Int)+1).toNat=bitsN a-bitsN b+1 by omega]
   exact top_bits hb c
 · rw [show ((bitsN a:Int)-(bitsN b:Int)+1).toNat=0 by omega,Nat.pow_zero,Nat.mul_one]
   exact less_bits (by omega)
theorem bits_room {b t K:Nat} (hb:b<2^K):b*2^t<2^(K+t):=by
 rw [Nat.pow_add]
 exact Nat.mul_lt_mul_of_pos_right hb (Nat.two_pow_pos t)
theorem pow_up {r K t:Nat} (h:r<2^K):r<2^(K+t):=Nat.lt_of_lt_of_le h (Nat.pow_le_pow_right (by omega) (by omega))
theorem rest_step {b r k R:Nat} (h:r%b=R%b) (hl:r<b*2^(k+1)):(b*2^k≤r→(r-b*2^k)%b=R%b∧r-b*2^k<b*2^k)∧(¬b*2^k≤r→r<b*2^k):=by
 have e2:b*2^(k+1)=b*2^k+b*2^k:=by rw [Nat.pow_succ,←Nat.mul_assoc];omega
 refine⟨fun c=>⟨?_,by omega⟩,fun c=>by omega⟩
 rw [Nat.sub_mul_mod c,h]
set_option maxHeartbeats 4000000 in
theorem rest_w {ao bo:Option Addr} {l ca k cb:Nat} (a b K:Nat) (hK:K≤100000) (hb0:b≠0) (ha:a<2^K) (hb:b<2^K) (w:World) (A:BigIs w (.slice ao l ca) a) (B:BigIs w (.slice bo k cb) b) :
   Calls Tryd.prog 109 #[.slice ao l ca,.slice bo k cb] w fun r w'=>(∃v,r=.returned v∧BigIs w' v (a%b))∧Below w.heap.size w w':=by
 have c1:=bits_w (.slice ao l ca) a K (by omega) ha w A
 have c2:=bits_w (.slice bo k cb) b K (by omega) hb w B
 have n1:=bitsN_le ha
 have n2:=bitsN_le hb
 have HS:Hid (a<b*2^((bitsN a:Int)-(bitsN b:Int)+1).toNat):=div_start hb0
 generalize bitsN a=Na at *
 generalize bitsN b=Nb at *
 have i1:(Na:Int)≤100000:=by omega
 have i2:(Nb:Int)≤100000:=by omega
 go_enter Tryd.func109,Tryd.ntmps109
 go_upto_region 2 with (first
   | (go_at_call_of 110 (Value.slice ao l ca);(with_reducible refine c1.mono ?_);rintro _ _ ⟨rfl,rfl⟩)
   | (go_at_call_of 110 (Value.slice bo k cb);(with_reducible refine c2.mono ?_);rintro _ _ ⟨rfl,rfl⟩))
 clear c1 c2 n1 n2
 have HK:Hid (a<2^K∧b<2^K):=⟨ha,hb⟩
 clear ha hb
 go_loopg [0,5] (200001:Nat) (fun G s0 s5 wx=>∃(z:Int) (r:Nat),s5=.int .i64 z∧-100000≤z∧z≤100000∧z+100001≤(G:Int)∧Below w.heap.size w wx∧BigIs wx s0 r∧Hid (r%b=a%b∧r≤a∧r<b*2^(z+1).toNat))
 case atStart=>exact⟨(Na:Int)-Nb,a,rfl,by omega,by omega,by omega,Below.refl _ _,A,rfl,Nat.le_refl _,HS.out⟩
 case round =>
   clear HS A
   obtain⟨z,r,rfl,z1,z2,zG,HB,R,H⟩:=hrel
   obtain⟨o0,k0,c0,rfl, -⟩:=R.shape
   by_cases cz:z<0
   · have cz':¬(0:Int)≤z:=by omega
     have e:r=a%b:=by
       obtain⟨h1, -,h3⟩:=H.out
       rw [show (z+1).toNat=0 by omega,Nat.pow_zero,Nat.mul_one] at h3
       rw [←h1,Nat.mod_eq_of_lt h3]
     rw [e] at R
     clear H HK e
     go_wp2_with fail
     go_ret
     exact⟨⟨_,rfl,R⟩,HB⟩
   · have cz':(0:Int)≤z:=by omega
     obtain⟨t,rfl⟩:∃t:Nat,z=(t:Int):=⟨z.toNat,by omega⟩
     have h3:=H.out
     rw [show ((t:Int)+1).toNat=t+1 by omega] at h3
     have st:=rest_step h3.1 h3.2.2
     have hr:r≤a:=h3.2.1
     have BB:=B.keep HB
     have cl:=fun W (q:BigIs W (.slice bo k cb) b)=>left_w (.slice bo k cb) b t (t/32) (t%32) K (by omega) HK.out.2 (by omega) (by omega) (by omega) W q
     have q1:b*2^t<2^(K+t):=bits_room HK.out.2
     have q2:r<2^(K+t):=pow_up (Nat.lt_of_le_of_lt hr HK.out.1)
     have cc:=fun W v1 v2 (p1:BigIs W v1 (b*2^t)) (p2:BigIs W v2 r)=>cmp_w v1 v2 (b*2^t) r (K+t) (by omega) q1 q2 W p1 p2
     have cs:=fun W v1 v2 (h:b*2^t≤r) (p1:BigIs W v1 r) (p2:BigIs W v2 (b*2^t))=>less_w v1 v2 r (b*2^t) (K+t) (by omega) q2 h W p1 p2
     have ST:Hid ((b*2^t≤r→(r-b*2^t)%b=a%b∧r-b*2^t<b*2^t)∧(¬b*2^t≤r→r<b*2^t)):=st
     have H1:Hid (r%b=a%b∧r≤a):=⟨h3.1,hr⟩
     clear st h3 hr q1 q2 H HK
     have H2:Hid (b*2^((t:Int)-1+1).toNat=b*2^t):=by show _=_;rw [show ((t:Int)-1+1).toNat=t by omega]
     generalize b*2^t=d at *
     go_upto_region 4 with (go_at_call 111;(with_reducible refine (cl _ BB).mono ?_);rintro _ W1 ⟨⟨v1,rfl,D⟩,hb1⟩;obtain⟨o1,k1,c1,rfl, -⟩:=D.shape;replace R:=R.keep hb1;replace HB:=later HB hb1;clear hb1 BB)
     by_cases cd:d≤r
     · have cm:=cmpN_le cd
       have e1:=(ST.out.1 cd).1
       have e2:=(ST.out.1 cd).2
       have H4:Hid ((r-d)%b=a%b∧r-d≤a∧r-d<b*2^((t:Int)-1+1).toNat):=⟨e1,by have:=H1.out.2;omega,by rw [H2.out];exact e2⟩
       clear e1 e2 ST H1 H2
       generalize cmpN d r=y at *
       go_wp2_with (first
         | (go_at_call 62;(with_reducible refine (cc _ _ _ D R).mono ?_);rintro _ W2 ⟨rfl,hb1⟩;replace R:=R.keep hb1;replace D:=D.keep hb1;replace HB:=later HB hb1;clear hb1)
         | (go_at_call 112;(with_reducible refine (cs _ _ _ cd R D).mono ?_);rintro _ W3 ⟨⟨v3,rfl,E⟩,hb1⟩;replace HB:=later HB hb1;clear hb1))
       (go_roundg (t+100000)
        case measure=>omega
        case rel=>exact⟨(t:Int)-1,r-d,by go_num,by omega,by omega,by omega,HB,E,H4.out⟩)
     · have cm:=cmpN_nle cd
       have e2:=ST.out.2 cd
       have H4:Hid (r%b=a%b∧r≤a∧r<b*2^((t:Int)-1+1).toNat):=⟨H1.out.1,H1.out.2,by rw [H2.out];exact e2⟩
       clear e2 ST H1 H2
       generalize cmpN d r=y at *
       go_wp2_with (first
         | (go_at_call 62;(with_reducible refine (cc _ _ _ D R).mono ?_);rintro _ W2 ⟨rfl,hb1⟩;replace R:=R.keep hb1;replace HB:=later HB hb1;clear hb1))
       (go_roundg (t+100000)
        case measure=>omega
        case rel=>exact⟨(t:Int)-1,r,by go_num,by omega,by omega,by omega,HB,R,H4.out⟩)
theorem quo_step {b q r R k:Nat} (h:R=b*(q*2^(k+1))+r) (hl:r<b*2^(k+1)):(b*2^k≤r→R=b*((q*2^1+1)*2^k)+(r-b*2^k)∧r-b*2^k<b*2^k)∧(¬b*2^k≤r→R=b*(q*2^1*2^k)+r∧r<b*2^k):=by
 have e1:b*(q*2^(k+1))=b*(q*2^1*2^k):=by rw [Nat.mul_assoc q,←Nat.pow_add,Nat.add_comm 1 k]
 have e2:b*2^(k+1)=b*2^k+b*2^k:=by rw [Nat.pow_succ];rw [←Nat.mul_assoc];omega
 rw [e1] at h
 rw [e2] at hl
 have e3:b*((q*2^1+1)*2^k)=b*(q*2^1*2^k)+b*2^k:=by rw [Nat.add_mul,Nat.one_mul,Nat.mul_add]
 rw [e3]
 constructor
 · intro c;omega
 · intro c;omega
theorem quo_end {b q r R:Nat} (h:R=b*(q*2^0)+r) (hl:r<b*2^0):q=R/b:=by
 rw [Nat.pow_zero,Nat.mul_one] at h hl
 rw [h,Nat.mul_add_div (by omega),Nat.div_eq_of_lt hl,Nat.add_zero]
theorem quo_small {b q r R k:Nat} (hb:b≠0) (h:R=b*(q*2^k)+r):q≤R:=by
 have h1:q*1≤q*2^k:=Nat.mul_le_mul_left _ (Nat.two_pow_pos k)
 have h2:1*(q*2^k)≤b*(q*2^k):=Nat.mul_le_mul_right _ (by omega)
 omega
set_option maxHeartbeats 4000000 in
theorem quo_w {ao bo:Option Addr} {l ca k cb:Nat} (a b K:Nat) (hK:K≤100000) (hK1:1≤K) (hb0:b≠0) (ha:a<2^K) (hb:b<2^K) (w:World) (A:BigIs w (.slice ao l ca) a) (B:BigIs w (.slice bo k cb) b) :
   Calls Tryd.prog 59 #[.slice ao l ca,.slice bo k cb] w fun r w'=>(∃v,r=.returned v∧BigIs w' v (a/b))∧Below w.heap.size w w':=by
 have HB:Below w.heap.size w (w.alloc (.cells #[] 97)):=by go_grown
 have Q0:BigIs (w.alloc (.cells #[] 97)) (.slice (some ⟨w.heap.size,0,none⟩) 0 0) 0:=⟨[],Digs.nil,trimmed_nil,rfl,(own_empty w).row⟩
 replace A:=A.keep HB
 replace B:=B.keep HB
 have n1:=bitsN_le ha
 have n2:=bitsN_le hb
 have HS:Hid (a<b*2^((bitsN a:Int)-(bitsN b:Int)+1).toNat):=div_start hb0
 have c1:=fun W (q:BigIs W (.slice ao l ca) a)=>bits_w (.slice ao l ca) a K (by omega) ha W q
 have c2:=fun W (q:BigIs W (.slice bo k cb) b)=>bits_w (.slice bo k cb) b K (by omega) hb W q
 generalize bitsN a=Na at *
 generalize bitsN b=Nb at *
 have i1:(Na:Int)≤100000:=by omega
 have i2:(Nb:Int)≤100000:=by omega
 go_enter Tryd.func59,Tryd.ntmps59
 go_upto_region 2 with fail
 generalize w.alloc (.cells #[] 97)=V1 at *
 go_upto_region 3 with (first
   | (go_at_call_of 110 (Value.slice ao l ca);(with_reducible refine (c1 _ A).mono ?_);rintro _ _ ⟨rfl,rfl⟩)
   | (go_at_call_of 110 (Value.slice bo k cb);(with_reducible refine (c2 _ B).mono ?_);rintro _ _ ⟨rfl,rfl⟩))
 clear c1 c2 n1 n2
 have HK:Hid (a<2^K∧b<2^K∧b≠0∧1<2^K):=⟨ha,hb,hb0,Nat.lt_of_lt_of_le (show 1<2^1 by decide) (Nat.pow_le_pow_right (by omega) hK1)⟩
 clear ha hb hb0
 go_loopg [0,5,6] (200001:Nat) (fun G s0 s5 s6 wx=>∃(z:Int) (r q:Nat),s6=.int .i64 z∧-100000≤z∧z≤100000∧z+100001≤(G:Int)∧Below w.heap.size w wx∧Below V1.heap.size V1 wx∧BigIs wx s0 r∧BigIs wx s5 q∧Hid (a=b*(q*2^(z+1).toNat)+r∧r<b*2^(z+1).toNat))
 case atStart=>exact⟨(Na:Int)-Nb,a,0,rfl,by omega,by omega,by omega,HB,Below.refl _ _,A,Q0,by rw [Nat.zero_mul,Nat.mul_zero,Nat.zero_add],HS.out⟩
 case round =>
   clear HS A Q0 HB
   obtain⟨z,r,q,rfl,z1,z2,zG,HB,HV,R,Q,H⟩:=hrel
   obtain⟨o0,k0,c0,rfl, -⟩:=R.shape
   obtain⟨o5,k5,c5,rfl, -⟩:=Q.shape
   by_cases cz:z<0
   · have cz':¬(0:Int)≤z:=by omega
     have e:q=a/b:=by
       obtain⟨h1,h3⟩:=H.out
       rw [show (z+1).toNat=0 by omega] at h1 h3
       exact quo_end h1 h3
     rw [e] at Q
     clear H HK e
     go_wp2_with fail
     go_ret
     exact⟨⟨_,rfl,Q⟩,HB⟩
   · have cz':(0:Int)≤z:=by omega
     obtain⟨t,rfl⟩:∃t:Nat,z=(t:Int):=⟨z.toNat,by omega⟩
     have h3:=H.out
     rw [show ((t:Int)+1).toNat=t+1 by omega] at h3
     have st:=quo_step h3.1 h3.2
     obtain⟨ka,kb,kn,k1⟩:=HK.out
     have hr:r≤a:=by have:=h3.1;omega
     have hq2:q≤a:=quo_small kn h3.1
     have BB:=B.keep HV
     have cl:=fun W (q:BigIs W (.slice bo k cb) b)=>left_w (.slice bo k cb) b t (t/32) (t%32) K (by omega) kb (by omega) (by omega) (by omega) W q
     have cl1:∀W,BigIs W (.slice o5 k5 c5) q→Calls Tryd.prog 111 #[.slice o5 k5 c5,.int .i64 1] W fun e w'=>(∃v',e=.returned v'∧BigIs w' v' (q*2^1))∧Below W.heap.size W w':=fun W p=>left_w (.slice o5 k5 c5) q 1 0 1 K (by omega) (Nat.lt_of_le_of_lt hq2 ka) (by omega) (by omega) (by omega) W p
     have q1:b*2^t<2^(K+t):=bits_room kb
     have q2:r<2^(K+t):=pow_up (Nat.lt_of_le_of_lt hr ka)
     have q3:q*2^1<2^(K+1):=bits_room (Nat.lt_of_le_of_lt hq2 ka)
     have cc:=fun W v1 v2 (p1:BigIs W v1 (b*2^t)) (p2:BigIs W v2 r)=>cmp_w v1 v2 (b*2^t) r (K+t) (by omega) q1 q2 W p1 p2
     have cs:=fun W v1 v2 (h:b*2^t≤r) (p1:BigIs W v1 r) (p2:BigIs W v2 (b*2^t))=>less_w v1 v2 r (b*2^t) (K+t) (by omega) q2 h W p1 p2
     have cp:=fun W v1 v2 (p1:BigIs W v1 (q*2^1)) (p2:BigIs W v2 1)=>plus_w v1 v2 (q*2^1) 1 (K+1) (by omega) q3 (pow_up k1) W p1 p2
     have co:∀W,Calls Tryd.prog 26 #[.int .u64 1] W fun e w'=>(∃v',e=.returned v'∧BigIs w' v' 1)∧Below W.heap.size W w':=fun W=>of_w 1 (by omega) W
     have H2:Hid (((t:Int)-1+1).toNat=t):=by show _=_;omega
     have ST:Hid ((b*2^t≤r→a=b*((q*2^1+1)*2^t)+(r-b*2^t)∧r-b*2^t<b*2^t)∧(¬b*2^t≤r→a=b*(q*2^1*2^t)+r∧r<b*2^t)):=st
     clear st h3 hr hq2 q1 q2 q3 H HK ka kb kn k1
     have HD:∃d,Hid (b*2^t=d):=⟨_,rfl⟩
     obtain⟨d,HD⟩:=HD
     rw [HD.out] at cl cc cs
     have HQ:∃u,Hid (q*2^1=u):=⟨_,rfl⟩
     obtain⟨u,HQ⟩:=HQ
     rw [HQ.out] at cl1 cp
     go_upto_region 6 with (first
       | (go_at_call_of 111 (Value.slice bo k cb);(with_reducible refine (cl _ BB).mono ?_);rintro _ W1 ⟨⟨v1,rfl,D⟩,hb1⟩;obtain⟨o1,k1,c1,rfl, -⟩:=D.shape;replace R:=R.keep hb1;replace Q:=Q.keep hb1;replace HB:=later HB hb1;replace HV:=later HV hb1;clear hb1 BB)
       | (go_at_call_of 111 (Value.slice o5 k5 c5);(with_reducible refine (cl1 _ Q).mono ?_);rintro _ W2 ⟨⟨v2,rfl,U⟩,hb1⟩;obtain⟨o2,k2,c2,rfl, -⟩:=U.shape;replace R:=R.keep hb1;replace D:=D.keep hb1;replace HB:=later HB hb1;replace HV:=later HV hb1;clear hb1))
     clear Q cl cl1
     by_cases cd:d≤r
     · have cm:=cmpN_le cd
       have H4:Hid (a=b*((u+1)*2^((t:Int)-1+1).toNat)+(r-d)∧r-d<b*2^((t:Int)-1+1).toNat):=by
         have e:=ST.out.1 (by rw [HD.out];exact cd)
         rw [HD.out,HQ.out] at e
         refine⟨by rw [H2.out];exact e.1,by rw [H2.out,HD.out];exact e.2⟩
       clear ST H2 HD HQ
       generalize cmpN d r=y at *
       go_wp2_with (first
         | (go_at_call 62;(with_reducible refine (cc _ _ _ D R).mono ?_);rintro _ W3 ⟨rfl,hb1⟩;replace R:=R.keep hb1;replace D:=D.keep hb1;replace U:=U.keep hb1;replace HB:=later HB hb1;replace HV:=later HV hb1;clear hb1)
         | (go_at_call 112;(with_reducible refine (cs _ _ _ cd R D).mono ?_);rintro _ W4 ⟨⟨v4,rfl,E⟩,hb1⟩;replace U:=U.keep hb1;replace HB:=later HB hb1;replace HV:=later HV hb1;clear hb1)
         | (go_at_call 26;(with_reducible refine (co _).mono ?_);rintro _ W5 ⟨⟨v5,rfl,O⟩,hb1⟩;replace U:=U.keep hb1;replace E:=E.keep hb1;replace HB:=later HB hb1;replace HV:=later HV hb1;clear hb1)
         | (go_at_call 55;(with_reducible refine (cp _ _ _ U O).mono ?_);rintro _ W6 ⟨⟨v6,rfl,Y⟩,hb1⟩;replace E:=E.keep hb1;replace HB:=later HB hb1;replace HV:=later HV hb1;clear hb1))
       (go_roundg (t+100000)
        case measure=>omega
        case rel=>exact⟨(t:Int)-1,r-d,u+1,by go_num,by omega,by omega,by omega,HB,HV,E,Y,H4.out⟩)
     · have cm:=cmpN_nle cd
       have H4:Hid (a=b*(u*2^((t:Int)-1+1).toNat)+r∧r<b*2^((t:Int)-1+1).toNat):=by
         have e:=ST.out.2 (by rw [HD.out];exact cd)
         rw [HD.out,HQ.out] at e
         refine⟨by rw [H2.out];exact e.1,by rw [H2.out,HD.out];exact e.2⟩
       clear ST H2 HD HQ
       generalize cmpN d r=y at *
       go_wp2_with (first
         | (go_at_call 62;(with_reducible refine (cc _ _ _ D R).mono ?_);rintro _ W3 ⟨rfl,hb1⟩;replace R:=R.keep hb1;replace U:=U.keep hb1;replace HB:=later HB hb1;replace HV:=later HV hb1;clear hb1))
       (go_roundg (t+100000)
        case measure=>omega
        case rel=>exact⟨(t:Int)-1,r,u,by go_num,by omega,by omega,by omega,HB,HV,R,U,H4.out⟩)
theorem gcd_step (a b:Nat):Nat.gcd b (a%b)=Nat.gcd a b:=by rw [Nat.gcd_comm b,←Nat.gcd_rec,Nat.gcd_comm]
set_option maxHeartbeats 4000000 in
theorem common_w {ao bo:Option Addr} {l ca k cb:Nat} (a b K:Nat) (hK:K≤100000) (ha:a<2^K) (hb:b<2^K) (w:World) (A:BigIs w (.slice ao l ca) a) (B:BigIs w (.slice bo k cb) b) :
   Calls Tryd.prog 57 #[.slice ao l ca,.slice bo k cb] w fun r w'=>(∃v,r=.returned v∧BigIs w' v (Nat.gcd a b))∧Below w.heap.size w w':=by
 have HK:Hid (a<2^K∧b<2^K):=⟨ha,hb⟩
 clear ha hb
 go_enter Tryd.func57,Tryd.ntmps57
 go_upto_region 1 with fail
 go_loopg [0,1] b (fun G s0 s1 wx=>∃(m n:Nat),n≤G∧Below w.heap.size w wx∧BigIs wx s0 m∧BigIs wx s1 n∧Hid (Nat.gcd m n=Nat.gcd a b∧m<2^K∧n<2^K))
 case atStart=>exact⟨a,b,Nat.le_refl _,Below.refl _ _,A,B,rfl,HK.out.1,HK.out.2⟩
 case round =>
   clear A B HK
   obtain⟨m,n,hG,HB,M,N,H⟩:=hrel
   obtain⟨o0,k0,c0,rfl, -⟩:=M.shape
   obtain⟨o1,k1,c1,rfl,hk⟩:=N.shape
   by_cases cn:n=0
   · have z:k1=0:=hk.2 cn
     subst z
     have e:m=Nat.gcd a b:=by rw [←H.out.1,cn,Nat.gcd_zero_right]
     rw [e] at M
     clear e H hk
     go_wp2_with fail
     go_ret
     exact⟨⟨_,rfl,M⟩,HB⟩
   · have z:k1≠0:=fun q=>cn (hk.1 q)
     have z1:0<k1:=by omega
     have z2:(0:Int)<(k1:Int):=by omega
     have cr:=fun W (p:BigIs W (.slice o0 k0 c0) m) (q:BigIs W (.slice o1 k1 c1) n)=>rest_w m n K hK cn H.out.2.1 H.out.2.2 W p q
     have lt:=Nat.mod_lt m (show 0<n by omega)
     have H2:Hid (Nat.gcd n (m%n)=Nat.gcd a b∧n<2^K∧m%n<2^K):=⟨by rw [gcd_step];exact H.out.1,H.out.2.2,Nat.lt_trans lt H.out.2.2⟩
     clear H hk cn z
     generalize m%n=d at *
     go_wp2_with (go_at_call 109;(with_reducible refine (cr _ M N).mono ?_);rintro _ W1 ⟨⟨v1,rfl,D⟩,hb1⟩;replace N:=N.keep hb1;replace HB:=later HB hb1;clear hb1)
     (go_roundg d
      case measure=>omega
      case rel=>exact⟨n,d,Nat.le_refl _,HB,N,D,H2.out⟩)
theorem one_w (w:World):Calls Tryd.prog 30 #[] w fun r w'=>(∃v,r=.returned v∧BigIs w' v 1)∧Below w.heap.size w w':=by
 have co:∀W,Calls Tryd.prog 26 #[.int .u64 1] W fun e w'=>(∃v',e=.returned v'∧BigIs w' v' 1)∧Below W.heap.size W w':=fun W=>of_w 1 (by omega) W
 go_enter Tryd.func30,Tryd.ntmps30
 go_wp2_with (go_at_call 26;(with_reducible refine (co _).mono ?_);rintro _ W1 ⟨⟨v1,rfl,D⟩,hb1⟩)
 go_ret
 exact⟨⟨_,rfl,D⟩,hb1⟩
end Go.Proofs.YtgocelaghggpmaaDoor
