/- The reference's numbers of stage 11: what is left by a divisor, how often it is in. -/
import Derived.Test.YtgocelaghggpmaaDoorKt15
namespace Go.Proofs.YtgocelaghggpmaaDoor
open Go.ChangeShapes Go.WideShapes Go.ChangeAt Go.RowKit
theorem top_bits {a b:Nat} (hb:b≠0) (h:bitsN b≤bitsN a):a<b*2^(bitsN a-bitsN b+1):=by
 obtain⟨t,e,h1,h2⟩:=bitsN_low hb
 have ha:a≠0:=by rintro rfl;have:bitsN 0=0:=rfl;omega
 obtain⟨s,f, -,h4⟩:=bitsN_low ha
 rw [e,f] at h ⊢
 have:2^t*2^(s+1-(t+1)+1)≤b*2^(s+1-(t+1)+1):=Nat.mul_le_mul_right _ h1
 rw [←Nat.pow_add,show t+(s+1-(t+1)+1)=s+1 by omega] at this
 omega
theorem less_bits {a b:Nat} (h:bitsN a<bitsN b):a<b:=by
 have hb:b≠0:=by rintro rfl;have:bitsN 0=0:=rfl;omega
 obtain⟨t,e,h1,h2⟩:=bitsN_low hb
 by_cases ha:a=0
 · omega
 obtain⟨s,f, -,h4⟩:=bitsN_low ha
 have:2^(s+1)≤2^t:=Nat.pow_le_pow_right (by omega) (by omega)
 omega
theorem cmpN_le {m n:Nat} (h:m≤n):cmpN m n≤0:=by unfold cmpN;split <;> (try split) <;> omega
theorem cmpN_nle {m n:Nat} (h:¬m≤n):¬cmpN m n≤0:=by unfold cmpN;split <;> (try split) <;> omega
theorem div_start {a b:Nat} (hb:b≠0):a<b*2^((bitsN a:Int)-(bitsN b:Int)+1).toNat:=by
 by_cases c:bitsN b≤bitsN a
 · rw [show ((bitsN a:Int)-(bitsN b:Int)+1).toNat=bitsN a-bitsN b+1 by omega]
   exact top_bits hb c
 · rw [show ((bitsN a:Int)-(bitsN b:Int)+1).toNat=0 by omega,Nat.pow_zero,Nat.mul_one]
   exact less_bits (by omega)
theorem bits_room {b t K:Nat} (hb:b<2^K):b*2^t<2^(K+t):=by
 rw [Nat.pow_add]
 exact Nat.mul_lt_mul_of_pos_right hb (Nat.two_pow_pos t)
theorem pow_up {r K t:Nat} (h:r<2^K):r<2^(K+t):=Nat.lt_of_lt_of_le h (Nat.pow_le_pow_right (by omega) (by omega))
theorem rest_step {b r k R:Nat} (h:r%b=R%b) (hl:r<b*2^(k+1)):(b*2^k≤r→(r-b*2^k)%b=R%b∧r-b*2^k<b*2^k)∧(¬b*2^k≤r→r<b*2^k):=by
 have e2:b*2^(k+1)=b*2^k+b*2^k:=by rw [Nat.pow_succ,←Nat.mul_assoc];omega
 refine⟨fun c=>⟨?_,by omega⟩,fun c=>by omega⟩
 rw [Nat.sub_mul_mod c,h]
set_option maxHeartbeats 4000000 in
theorem rest_w {ao bo:Option Addr} {l ca k cb:Nat} (a b K:Nat) (hK:K≤100000) (hb0:b≠0) (ha:a<2^K) (hb:b<2^K) (w:World) (A:BigIs w (.slice ao l ca) a) (B:BigIs w (.slice bo k cb) b) :
   Calls Tryd.prog 109 #[.slice ao l ca,.slice bo k cb] w fun r w'=>(∃v,r=.returned v∧BigIs w' v (a%b))∧Below w.heap.size w w':=by
 have c1:=bits_w (.slice ao l ca) a K (by omega) ha w A
 have c2:=bits_w (.slice bo k cb) b K (by omega) hb w B
 have n1:=bitsN_le ha
 have n2:=bitsN_le hb
 have HS:Hid (a<b*2^((bitsN a:Int)-(bitsN b:Int)+1).toNat):=div_start hb0
 generalize bitsN a=Na at *
 generalize bitsN b=Nb at *
 have i1:(Na:Int)≤100000:=by omega
 have i2:(Nb:Int)≤100000:=by omega
 go_enter Tryd.func109,Tryd.ntmps109
 go_upto_region 2 with (first
   | (go_at_call_of 110 (Value.slice ao l ca);(with_reducible refine c1.mono ?_);rintro _ _ ⟨rfl,rfl⟩)
   | (go_at_call_of 110 (Value.slice bo k cb);(with_reducible refine c2.mono ?_);rintro _ _ ⟨rfl,rfl⟩))
 clear c1 c2 n1 n2
 have HK:Hid (a<2^K∧b<2^K):=⟨ha,hb⟩
 clear ha hb
 go_loopg [0,5] (200001:Nat) (fun G s0 s5 wx=>∃(z:Int) (r:Nat),s5=.int .i64 z∧-100000≤z∧z≤100000∧z+100001≤(G:Int)∧Below w.heap.size w wx∧BigIs wx s0 r∧Hid (r%b=a%b∧r≤a∧r<b*2^(z+1).toNat))
 case atStart=>exact⟨(Na:Int)-Nb,a,rfl,by omega,by omega,by omega,Below.refl _ _,A,rfl,Nat.le_refl _,HS.out⟩
 case round =>
   clear HS A
   obtain⟨z,r,rfl,z1,z2,zG,HB,R,H⟩:=hrel
   obtain⟨o0,k0,c0,rfl, -⟩:=R.shape
   by_cases cz:z<0
   · have cz':¬(0:Int)≤z:=by omega
     have e:r=a%b:=by
       obtain⟨h1, -,h3⟩:=H.out
       rw [show (z+1).toNat=0 by omega,Nat.pow_zero,Nat.mul_one] at h3
       rw [←h1,Nat.mod_eq_of_lt h3]
     rw [e] at R
     clear H HK e
     go_wp2_with fail
     go_ret
     exact⟨⟨_,rfl,R⟩,HB⟩
   · have cz':(0:Int)≤z:=by omega
     obtain⟨t,rfl⟩:∃t:Nat,z=(t:Int):=⟨z.toNat,by omega⟩
     have h3:=H.out
     rw [show ((t:Int)+1).toNat=t+1 by omega] at h3
     have st:=rest_step h3.1 h3.2.2
     have hr:r≤a:=h3.2.1
     have BB:=B.keep HB
     have cl:=fun W (q:BigIs W (.slice bo k cb) b)=>left_w (.slice bo k cb) b t (t/32) (t%32) K (by omega) HK.out.2 (by omega) (by omega) (by omega) W q
     have q1:b*2^t<2^(K+t):=bits_room HK.out.2
     have q2:r<2^(K+t):=pow_up (Nat.lt_of_le_of_lt hr HK.out.1)
     have cc:=fun W v1 v2 (p1:BigIs W v1 (b*2^t)) (p2:BigIs W v2 r)=>cmp_w v1 v2 (b*2^t) r (K+t) (by omega) q1 q2 W p1 p2
     have cs:=fun W v1 v2 (h:b*2^t≤r) (p1:BigIs W v1 r) (p2:BigIs W v2 (b*2^t))=>less_w v1 v2 r (b*2^t) (K+t) (by omega) q2 h W p1 p2
     have ST:Hid ((b*2^t≤r→(r-b*2^t)%b=a%b∧r-b*2^t<b*2^t)∧(¬b*2^t≤r→r<b*2^t)):=st
     have H1:Hid (r%b=a%b∧r≤a):=⟨h3.1,hr⟩
     clear st h3 hr q1 q2 H HK
     have H2:Hid (b*2^((t:Int)-1+1).toNat=b*2^t):=by show _=_;rw [show ((t:Int)-1+1).toNat=t by omega]
     generalize b*2^t=d at *
     go_upto_region 4 with (go_at_call 111;(with_reducible refine (cl _ BB).mono ?_);rintro _ W1 ⟨⟨v1,rfl,D⟩,hb1⟩;obtain⟨o1,k1,c1,rfl, -⟩:=D.shape;replace R:=R.keep hb1;replace HB:=later HB hb1;clear hb1 BB)
     by_cases cd:d≤r
     · have cm:=cmpN_le cd
       have e1:=(ST.out.1 cd).1
       have e2:=(ST.out.1 cd).2
       have H4:Hid ((r-d)%b=a%b∧r-d≤a∧r-d<b*2^((t:Int)-1+1).toNat):=⟨e1,by have:=H1.out.2;omega,by rw [H2.out];exact e2⟩
       clear e1 e2 ST H1 H2
       generalize cmpN d r=y at *
       go_wp2_with (first
         | (go_at_call 62;(with_reducible refine (cc _ _ _ D R).mono ?_);rintro _ W2 ⟨rfl,hb1⟩;replace R:=R.keep hb1;replace D:=D.keep hb1;replace HB:=later HB hb1;clear hb1)
         | (go_at_call 112;(with_reducible refine (cs _ _ _ cd R D).mono ?_);rintro _ W3 ⟨⟨v3,rfl,E⟩,hb1⟩;replace HB:=later HB hb1;clear hb1))
       (go_roundg (t+100000)
        case measure=>omega
        case rel=>exact⟨(t:Int)-1,r-d,by go_num,by omega,by omega,by omega,HB,E,H4.out⟩)
     · have cm:=cmpN_nle cd
       have e2:=ST.out.2 cd
       have H4:Hid (r%b=a%b∧r≤a∧r<b*2^((t:Int)-1+1).toNat):=⟨H1.out.1,H1.out.2,by rw [H2.out];exact e2⟩
       clear e2 ST H1 H2
       generalize cmpN d r=y at *
       go_wp2_with (first
         | (go_at_call 62;(with_reducible refine (cc _ _ _ D R).mono ?_);rintro _ W2 ⟨rfl,hb1⟩;replace R:=R.keep hb1;replace HB:=later HB hb1;clear hb1))
       (go_roundg (t+100000)
        case measure=>omega
        case rel=>exact⟨(t:Int)-1,r,by go_num,by omega,by omega,by omega,HB,R,H4.out⟩)
end Go.Proofs.YtgocelaghggpmaaDoor
