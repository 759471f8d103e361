/- The reference's numbers of stage 11: what is left by a divisor, how often it is in. The reference's numbers of stage 11: how often a divisor is in a number, the greatest common divisor, amounts. The reference's numbers between two, the model: sums, products, cuts, quotients, roots, series as functions of exact numbers; the walks of Sum, Product, Order and Minus by it. The reference's Right: what is whole of a number by a power of 2; cut, pair. The reference's numbers of stage 11: a number's low part, a quotient in its form. -/
import Derived.Test.YtbejmklkicoibaaKe06
namespace Go.Proofs.Ytbejmklkicoibaa
open Go.ChangeShapes Go.WideShapes Go.ChangeAt Go.RowKit
theorem top_bits {a b:Nat} (hb:b≠0) (h:bitsN b<=bitsN a):a<b*2^(bitsN a-bitsN b+1):=by
 obtain⟨t,e,h1,h2⟩:=bitsN_low hb
 have ha:a≠0:=by rintro rfl;have:bitsN 0=0:=rfl;omega
 obtain⟨s,f, -,h4⟩:=bitsN_low ha
 rw [e,f] at h ⊢
 have:2^t*2^(s+1-(t+1)+1)<=b*2^(s+1-(t+1)+1):=Nat.mul_le_mul_right _ h1
 rw [<-Nat.pow_add,show t+(s+1-(t+1)+1)=s+1 by omega] at this
 omega
theorem less_bits {a b:Nat} (h:bitsN a<bitsN b):a<b:=by
 have hb:b≠0:=by rintro rfl;have:bitsN 0=0:=rfl;omega
 obtain⟨t,e,h1,h2⟩:=bitsN_low hb
 by_cases ha:a=0
 ·omega
 obtain⟨s,f, -,h4⟩:=bitsN_low ha
 have:2^(s+1)<=2^t:=Nat.pow_le_pow_right (by omega) (by omega)
 omega
theorem cmpN_le {m n:Nat} (h:m<=n):cmpN m n<=0:=by unfold cmpN;split <;> (try split) <;> omega
theorem cmpN_nle {m n:Nat} (h:¬m<=n):¬cmpN m n<=0:=by unfold cmpN;split <;> (try split) <;> omega
theorem div_start {a b:Nat} (hb:b≠0):a<b*2^((bitsN a:Int)-(bitsN b:Int)+1).toNat:=by
 by_cases c:bitsN b<=bitsN a
 ·rw [show ((bitsN a:Int)-(bitsN b:Int)+1).toNat=bitsN a-bitsN b+1 by omega]
  exact top_bits hb c
 ·rw [show ((bitsN a:Int)-(bitsN b:Int)+1).toNat=0 by omega,Nat.pow_zero,Nat.mul_one]
  exact less_bits (by omega)
theorem bits_room {b t K:Nat} (hb:b<2^K):b*2^t<2^(K+t):=by
 rw [Nat.pow_add]
 exact Nat.mul_lt_mul_of_pos_right hb (Nat.two_pow_pos t)
theorem pow_up {r K t:Nat} (h:r<2^K):r<2^(K+t):=Nat.lt_of_lt_of_le h (Nat.pow_le_pow_right (by omega) (by omega))
theorem rest_step {b r k R:Nat} (h:r%b=R%b) (hl:r<b*2^(k+1)):(b*2^k<=r->(r-b*2^k)%b=R%b/\r-b*2^k<b*2^k)/\(¬b*2^k<=r->r<b*2^k):=by
 have e2:b*2^(k+1)=b*2^k+b*2^k:=by rw [Nat.pow_succ,<-Nat.mul_assoc];omega
 refine⟨fun c=>⟨?_,by omega⟩,fun c=>by omega⟩
 rw [Nat.sub_mul_mod c,h]
set_option maxHeartbeats 4000000 in
theorem rest_w {ao bo:Option Addr} {l ca k cb:Nat} (a b K:Nat) (hK:K<=100000) (hb0:b≠0) (ha:a<2^K) (hb:b<2^K) (w:World) (A:BigIs w (.slice ao l ca) a) (B:BigIs w (.slice bo k cb) b) :
   Calls Try.prog 83 #[.slice ao l ca,.slice bo k cb] w fun r w'=>(∃v,r=.returned v/\BigIs w' v (a%b))/\Below w.heap.size w w':=by
 have c1:=bits_w (.slice ao l ca) a K (by omega) ha w A
 have c2:=bits_w (.slice bo k cb) b K (by omega) hb w B
 have n1:=bitsN_le ha
 have n2:=bitsN_le hb
 have HS:Hid (a<b*2^((bitsN a:Int)-(bitsN b:Int)+1).toNat):=div_start hb0
 generalize bitsN a=Na at *
 generalize bitsN b=Nb at *
 have i1:(Na:Int)<=100000:=by omega
 have i2:(Nb:Int)<=100000:=by omega
 go_enter Try.func83,Try.ntmps83
 go_upto_region 2 with (first
   | (go_at_call_of 98 (Value.slice ao l ca);(with_reducible refine c1.mono ?_);rintro _ _ ⟨rfl,rfl⟩)
   | (go_at_call_of 98 (Value.slice bo k cb);(with_reducible refine c2.mono ?_);rintro _ _ ⟨rfl,rfl⟩))
 clear c1 c2 n1 n2
 have HK:Hid (a<2^K/\b<2^K):=⟨ha,hb⟩
 clear ha hb
 go_loopg [0,5] (200001:Nat) (fun G s0 s5 wx=>∃(z:Int) (r:Nat),s5=.int .i64 z/\-100000<=z/\z<=100000/\z+100001<=(G:Int)/\Below w.heap.size w wx/\BigIs wx s0 r/\Hid (r%b=a%b/\r<=a/\r<b*2^(z+1).toNat))
 case atStart=>exact⟨(Na:Int)-Nb,a,rfl,by omega,by omega,by omega,Below.refl _ _,A,rfl,Nat.le_refl _,HS.out⟩
 case round =>
   clear HS A
   obtain⟨z,r,rfl,z1,z2,zG,HB,R,H⟩:=hrel
   obtain⟨o0,k0,c0,rfl, -⟩:=R.shape
   by_cases cz:z<0
   · have cz':¬(0:Int)<=z:=by omega
     have e:r=a%b:=by
       obtain⟨h1, -,h3⟩:=H.out
       rw [show (z+1).toNat=0 by omega,Nat.pow_zero,Nat.mul_one] at h3
       rw [<-h1,Nat.mod_eq_of_lt h3]
     rw [e] at R
     clear H HK e
     go_wp2_with fail
     go_ret
     exact⟨⟨_,rfl,R⟩,HB⟩
   · have cz':(0:Int)<=z:=by omega
     obtain⟨t,rfl⟩:∃t:Nat,z=(t:Int):=⟨z.toNat,by omega⟩
     have h3:=H.out
     rw [show ((t:Int)+1).toNat=t+1 by omega] at h3
     have st:=rest_step h3.1 h3.2.2
     have hr:r<=a:=h3.2.1
     have BB:=B.keep HB
     have cl:=fun W (q:BigIs W (.slice bo k cb) b)=>left_w (.slice bo k cb) b t (t/32) (t%32) K (by omega) HK.out.2 (by omega) (by omega) (by omega) W q
     have q1:b*2^t<2^(K+t):=bits_room HK.out.2
     have q2:r<2^(K+t):=pow_up (Nat.lt_of_le_of_lt hr HK.out.1)
     have cc:=fun W v1 v2 (p1:BigIs W v1 (b*2^t)) (p2:BigIs W v2 r)=>cmp_w v1 v2 (b*2^t) r (K+t) (by omega) q1 q2 W p1 p2
     have cs:=fun W v1 v2 (h:b*2^t<=r) (p1:BigIs W v1 r) (p2:BigIs W v2 (b*2^t))=>less_w v1 v2 r (b*2^t) (K+t) (by omega) q2 h W p1 p2
     have ST:Hid ((b*2^t<=r->(r-b*2^t)%b=a%b/\r-b*2^t<b*2^t)/\(¬b*2^t<=r->r<b*2^t)):=st
     have H1:Hid (r%b=a%b/\r<=a):=⟨h3.1,hr⟩
     clear st h3 hr q1 q2 H HK
     have H2:Hid (b*2^((t:Int)-1+1).toNat=b*2^t):=by show _=_;rw [show ((t:Int)-1+1).toNat=t by omega]
     generalize b*2^t=d at *
     go_upto_region 4 with (go_at_call 99;(with_reducible refine (cl _ BB).mono ?_);rintro _ W1 ⟨⟨v1,rfl,D⟩,hb1⟩;obtain⟨o1,k1,c1,rfl, -⟩:=D.shape;replace R:=R.keep hb1;replace HB:=later HB hb1;clear hb1 BB)
     by_cases cd:d<=r
     · have cm:=cmpN_le cd
       have e1:=(ST.out.1 cd).1
       have e2:=(ST.out.1 cd).2
       have H4:Hid ((r-d)%b=a%b/\r-d<=a/\r-d<b*2^((t:Int)-1+1).toNat):=⟨e1,by have:=H1.out.2;omega,by rw [H2.out];exact e2⟩
       clear e1 e2 ST H1 H2
       generalize cmpN d r=y at *
       go_wp2_with (first
         | (go_at_call 66;(with_reducible refine (cc _ _ _ D R).mono ?_);rintro _ W2 ⟨rfl,hb1⟩;replace R:=R.keep hb1;replace D:=D.keep hb1;replace HB:=later HB hb1;clear hb1)
         | (go_at_call 100;(with_reducible refine (cs _ _ _ cd R D).mono ?_);rintro _ W3 ⟨⟨v3,rfl,E⟩,hb1⟩;replace HB:=later HB hb1;clear hb1))
       (go_roundg (t+100000)
        case measure=>omega
        case rel=>exact⟨(t:Int)-1,r-d,by go_num,by omega,by omega,by omega,HB,E,H4.out⟩)
     · have cm:=cmpN_nle cd
       have e2:=ST.out.2 cd
       have H4:Hid (r%b=a%b/\r<=a/\r<b*2^((t:Int)-1+1).toNat):=⟨H1.out.1,H1.out.2,by rw [H2.out];exact e2⟩
       clear e2 ST H1 H2
       generalize cmpN d r=y at *
       go_wp2_with (first
         | (go_at_call 66;(with_reducible refine (cc _ _ _ D R).mono ?_);rintro _ W2 ⟨rfl,hb1⟩;replace R:=R.keep hb1;replace HB:=later HB hb1;clear hb1))
       (go_roundg (t+100000)
        case measure=>omega
        case rel=>exact⟨(t:Int)-1,r,by go_num,by omega,by omega,by omega,HB,R,H4.out⟩)
theorem quo_step {b q r R k:Nat} (h:R=b*(q*2^(k+1))+r) (hl:r<b*2^(k+1)):(b*2^k<=r->R=b*((q*2^1+1)*2^k)+(r-b*2^k)/\r-b*2^k<b*2^k)/\(¬b*2^k<=r->R=b*(q*2^1*2^k)+r/\r<b*2^k):=by
 have e1:b*(q*2^(k+1))=b*(q*2^1*2^k):=by rw [Nat.mul_assoc q,<-Nat.pow_add,Nat.add_comm 1 k]
 have e2:b*2^(k+1)=b*2^k+b*2^k:=by rw [Nat.pow_succ];rw [<-Nat.mul_assoc];omega
 rw [e1] at h
 rw [e2] at hl
 have e3:b*((q*2^1+1)*2^k)=b*(q*2^1*2^k)+b*2^k:=by rw [Nat.add_mul,Nat.one_mul,Nat.mul_add]
 rw [e3]
 constructor
 ·intro c;omega
 ·intro c;omega
theorem quo_end {b q r R:Nat} (h:R=b*(q*2^0)+r) (hl:r<b*2^0):q=R/b:=by
 rw [Nat.pow_zero,Nat.mul_one] at h hl
 rw [h,Nat.mul_add_div (by omega),Nat.div_eq_of_lt hl,Nat.add_zero]
theorem quo_small {b q r R k:Nat} (hb:b≠0) (h:R=b*(q*2^k)+r):q<=R:=by
 have h1:q*1<=q*2^k:=Nat.mul_le_mul_left _ (Nat.two_pow_pos k)
 have h2:1*(q*2^k)<=b*(q*2^k):=Nat.mul_le_mul_right _ (by omega)
 omega
set_option maxHeartbeats 4000000 in
theorem quo_w {ao bo:Option Addr} {l ca k cb:Nat} (a b K:Nat) (hK:K<=100000) (hK1:1<=K) (hb0:b≠0) (ha:a<2^K) (hb:b<2^K) (w:World) (A:BigIs w (.slice ao l ca) a) (B:BigIs w (.slice bo k cb) b) :
   Calls Try.prog 89 #[.slice ao l ca,.slice bo k cb] w fun r w'=>(∃v,r=.returned v/\BigIs w' v (a/b))/\Below w.heap.size w w':=by
 have HB:Below w.heap.size w (w.alloc (.cells #[] 122)):=by go_grown
 have Q0:BigIs (w.alloc (.cells #[] 122)) (.slice (some ⟨w.heap.size,0,none⟩) 0 0) 0:=⟨[],Digs.nil,trimmed_nil,rfl,(own_empty w).row⟩
 replace A:=A.keep HB
 replace B:=B.keep HB
 have n1:=bitsN_le ha
 have n2:=bitsN_le hb
 have HS:Hid (a<b*2^((bitsN a:Int)-(bitsN b:Int)+1).toNat):=div_start hb0
 have c1:=fun W (q:BigIs W (.slice ao l ca) a)=>bits_w (.slice ao l ca) a K (by omega) ha W q
 have c2:=fun W (q:BigIs W (.slice bo k cb) b)=>bits_w (.slice bo k cb) b K (by omega) hb W q
 generalize bitsN a=Na at *
 generalize bitsN b=Nb at *
 have i1:(Na:Int)<=100000:=by omega
 have i2:(Nb:Int)<=100000:=by omega
 go_enter Try.func89,Try.ntmps89
 go_upto_region 2 with fail
 generalize w.alloc (.cells #[] 122)=V1 at *
 go_upto_region 3 with (first
   | (go_at_call_of 98 (Value.slice ao l ca);(with_reducible refine (c1 _ A).mono ?_);rintro _ _ ⟨rfl,rfl⟩)
   | (go_at_call_of 98 (Value.slice bo k cb);(with_reducible refine (c2 _ B).mono ?_);rintro _ _ ⟨rfl,rfl⟩))
 clear c1 c2 n1 n2
 have HK:Hid (a<2^K/\b<2^K/\b≠0/\1<2^K):=⟨ha,hb,hb0,Nat.lt_of_lt_of_le (show 1<2^1 by decide) (Nat.pow_le_pow_right (by omega) hK1)⟩
 clear ha hb hb0
 go_loopg [0,5,6] (200001:Nat) (fun G s0 s5 s6 wx=>∃(z:Int) (r q:Nat),s6=.int .i64 z/\-100000<=z/\z<=100000/\z+100001<=(G:Int)/\Below w.heap.size w wx/\Below V1.heap.size V1 wx/\BigIs wx s0 r/\BigIs wx s5 q/\Hid (a=b*(q*2^(z+1).toNat)+r/\r<b*2^(z+1).toNat))
 case atStart=>exact⟨(Na:Int)-Nb,a,0,rfl,by omega,by omega,by omega,HB,Below.refl _ _,A,Q0,by rw [Nat.zero_mul,Nat.mul_zero,Nat.zero_add],HS.out⟩
 case round =>
   clear HS A Q0 HB
   obtain⟨z,r,q,rfl,z1,z2,zG,HB,HV,R,Q,H⟩:=hrel
   obtain⟨o0,k0,c0,rfl, -⟩:=R.shape
   obtain⟨o5,k5,c5,rfl, -⟩:=Q.shape
   by_cases cz:z<0
   · have cz':¬(0:Int)<=z:=by omega
     have e:q=a/b:=by
       obtain⟨h1,h3⟩:=H.out
       rw [show (z+1).toNat=0 by omega] at h1 h3
       exact quo_end h1 h3
     rw [e] at Q
     clear H HK e
     go_wp2_with fail
     go_ret
     exact⟨⟨_,rfl,Q⟩,HB⟩
   · have cz':(0:Int)<=z:=by omega
     obtain⟨t,rfl⟩:∃t:Nat,z=(t:Int):=⟨z.toNat,by omega⟩
     have h3:=H.out
     rw [show ((t:Int)+1).toNat=t+1 by omega] at h3
     have st:=quo_step h3.1 h3.2
     obtain⟨ka,kb,kn,k1⟩:=HK.out
     have hr:r<=a:=by have:=h3.1;omega
     have hq2:q<=a:=quo_small kn h3.1
     have BB:=B.keep HV
     have cl:=fun W (q:BigIs W (.slice bo k cb) b)=>left_w (.slice bo k cb) b t (t/32) (t%32) K (by omega) kb (by omega) (by omega) (by omega) W q
     have cl1:∀W,BigIs W (.slice o5 k5 c5) q->Calls Try.prog 99 #[.slice o5 k5 c5,.int .i64 1] W fun e w'=>(∃v',e=.returned v'/\BigIs w' v' (q*2^1))/\Below W.heap.size W w':=fun W p=>left_w (.slice o5 k5 c5) q 1 0 1 K (by omega) (Nat.lt_of_le_of_lt hq2 ka) (by omega) (by omega) (by omega) W p
     have q1:b*2^t<2^(K+t):=bits_room kb
     have q2:r<2^(K+t):=pow_up (Nat.lt_of_le_of_lt hr ka)
     have q3:q*2^1<2^(K+1):=bits_room (Nat.lt_of_le_of_lt hq2 ka)
     have cc:=fun W v1 v2 (p1:BigIs W v1 (b*2^t)) (p2:BigIs W v2 r)=>cmp_w v1 v2 (b*2^t) r (K+t) (by omega) q1 q2 W p1 p2
     have cs:=fun W v1 v2 (h:b*2^t<=r) (p1:BigIs W v1 r) (p2:BigIs W v2 (b*2^t))=>less_w v1 v2 r (b*2^t) (K+t) (by omega) q2 h W p1 p2
     have cp:=fun W v1 v2 (p1:BigIs W v1 (q*2^1)) (p2:BigIs W v2 1)=>plus_w v1 v2 (q*2^1) 1 (K+1) (by omega) q3 (pow_up k1) W p1 p2
     have co:∀W,Calls Try.prog 84 #[.int .u64 1] W fun e w'=>(∃v',e=.returned v'/\BigIs w' v' 1)/\Below W.heap.size W w':=fun W=>of_w 1 (by omega) W
     have H2:Hid (((t:Int)-1+1).toNat=t):=by show _=_;omega
     have ST:Hid ((b*2^t<=r->a=b*((q*2^1+1)*2^t)+(r-b*2^t)/\r-b*2^t<b*2^t)/\(¬b*2^t<=r->a=b*(q*2^1*2^t)+r/\r<b*2^t)):=st
     clear st h3 hr hq2 q1 q2 q3 H HK ka kb kn k1
     have HD:∃d,Hid (b*2^t=d):=⟨_,rfl⟩
     obtain⟨d,HD⟩:=HD
     rw [HD.out] at cl cc cs
     have HQ:∃u,Hid (q*2^1=u):=⟨_,rfl⟩
     obtain⟨u,HQ⟩:=HQ
     rw [HQ.out] at cl1 cp
     go_upto_region 6 with (first
       | (go_at_call_of 99 (Value.slice bo k cb);(with_reducible refine (cl _ BB).mono ?_);rintro _ W1 ⟨⟨v1,rfl,D⟩,hb1⟩;obtain⟨o1,k1,c1,rfl, -⟩:=D.shape;replace R:=R.keep hb1;replace Q:=Q.keep hb1;replace HB:=later HB hb1;replace HV:=later HV hb1;clear hb1 BB)
       | (go_at_call_of 99 (Value.slice o5 k5 c5);(with_reducible refine (cl1 _ Q).mono ?_);rintro _ W2 ⟨⟨v2,rfl,U⟩,hb1⟩;obtain⟨o2,k2,c2,rfl, -⟩:=U.shape;replace R:=R.keep hb1;replace D:=D.keep hb1;replace HB:=later HB hb1;replace HV:=later HV hb1;clear hb1))
     clear Q cl cl1
     by_cases cd:d<=r
     · have cm:=cmpN_le cd
       have H4:Hid (a=b*((u+1)*2^((t:Int)-1+1).toNat)+(r-d)/\r-d<b*2^((t:Int)-1+1).toNat):=by
         have e:=ST.out.1 (by rw [HD.out];exact cd)
         rw [HD.out,HQ.out] at e
         refine⟨by rw [H2.out];exact e.1,by rw [H2.out,HD.out];exact e.2⟩
       clear ST H2 HD HQ
       generalize cmpN d r=y at *
       go_wp2_with (first
         | (go_at_call 66;(with_reducible refine (cc _ _ _ D R).mono ?_);rintro _ W3 ⟨rfl,hb1⟩;replace R:=R.keep hb1;replace D:=D.keep hb1;replace U:=U.keep hb1;replace HB:=later HB hb1;replace HV:=later HV hb1;clear hb1)
         | (go_at_call 100;(with_reducible refine (cs _ _ _ cd R D).mono ?_);rintro _ W4 ⟨⟨v4,rfl,E⟩,hb1⟩;replace U:=U.keep hb1;replace HB:=later HB hb1;replace HV:=later HV hb1;clear hb1)
         | (go_at_call 84;(with_reducible refine (co _).mono ?_);rintro _ W5 ⟨⟨v5,rfl,O⟩,hb1⟩;replace U:=U.keep hb1;replace E:=E.keep hb1;replace HB:=later HB hb1;replace HV:=later HV hb1;clear hb1)
         | (go_at_call 102;(with_reducible refine (cp _ _ _ U O).mono ?_);rintro _ W6 ⟨⟨v6,rfl,Y⟩,hb1⟩;replace E:=E.keep hb1;replace HB:=later HB hb1;replace HV:=later HV hb1;clear hb1))
       (go_roundg (t+100000)
        case measure=>omega
        case rel=>exact⟨(t:Int)-1,r-d,u+1,by go_num,by omega,by omega,by omega,HB,HV,E,Y,H4.out⟩)
     · have cm:=cmpN_nle cd
       have H4:Hid (a=b*(u*2^((t:Int)-1+1).toNat)+r/\r<b*2^((t:Int)-1+1).toNat):=by
         have e:=ST.out.2 (by rw [HD.out];exact cd)
         rw [HD.out,HQ.out] at e
         refine⟨by rw [H2.out];exact e.1,by rw [H2.out,HD.out];exact e.2⟩
       clear ST H2 HD HQ
       generalize cmpN d r=y at *
       go_wp2_with (first
         | (go_at_call 66;(with_reducible refine (cc _ _ _ D R).mono ?_);rintro _ W3 ⟨rfl,hb1⟩;replace R:=R.keep hb1;replace U:=U.keep hb1;replace HB:=later HB hb1;replace HV:=later HV hb1;clear hb1))
       (go_roundg (t+100000)
        case measure=>omega
        case rel=>exact⟨(t:Int)-1,r,u,by go_num,by omega,by omega,by omega,HB,HV,R,U,H4.out⟩)
theorem gcd_step (a b:Nat):Nat.gcd b (a%b)=Nat.gcd a b:=by rw [Nat.gcd_comm b,<-Nat.gcd_rec,Nat.gcd_comm]
set_option maxHeartbeats 4000000 in
theorem common_w {ao bo:Option Addr} {l ca k cb:Nat} (a b K:Nat) (hK:K<=100000) (ha:a<2^K) (hb:b<2^K) (w:World) (A:BigIs w (.slice ao l ca) a) (B:BigIs w (.slice bo k cb) b) :
   Calls Try.prog 67 #[.slice ao l ca,.slice bo k cb] w fun r w'=>(∃v,r=.returned v/\BigIs w' v (Nat.gcd a b))/\Below w.heap.size w w':=by
 have HK:Hid (a<2^K/\b<2^K):=⟨ha,hb⟩
 clear ha hb
 go_enter Try.func67,Try.ntmps67
 go_upto_region 1 with fail
 go_loopg [0,1] b (fun G s0 s1 wx=>∃(m n:Nat),n<=G/\Below w.heap.size w wx/\BigIs wx s0 m/\BigIs wx s1 n/\Hid (Nat.gcd m n=Nat.gcd a b/\m<2^K/\n<2^K))
 case atStart=>exact⟨a,b,Nat.le_refl _,Below.refl _ _,A,B,rfl,HK.out.1,HK.out.2⟩
 case round =>
   clear A B HK
   obtain⟨m,n,hG,HB,M,N,H⟩:=hrel
   obtain⟨o0,k0,c0,rfl, -⟩:=M.shape
   obtain⟨o1,k1,c1,rfl,hk⟩:=N.shape
   by_cases cn:n=0
   · have z:k1=0:=hk.2 cn
     subst z
     have e:m=Nat.gcd a b:=by rw [<-H.out.1,cn,Nat.gcd_zero_right]
     rw [e] at M
     clear e H hk
     go_wp2_with fail
     go_ret
     exact⟨⟨_,rfl,M⟩,HB⟩
   · have z:k1≠0:=fun q=>cn (hk.1 q)
     have z1:0<k1:=by omega
     have z2:(0:Int)<(k1:Int):=by omega
     have cr:=fun W (p:BigIs W (.slice o0 k0 c0) m) (q:BigIs W (.slice o1 k1 c1) n)=>rest_w m n K hK cn H.out.2.1 H.out.2.2 W p q
     have lt:=Nat.mod_lt m (show 0<n by omega)
     have H2:Hid (Nat.gcd n (m%n)=Nat.gcd a b/\n<2^K/\m%n<2^K):=⟨by rw [gcd_step];exact H.out.1,H.out.2.2,Nat.lt_trans lt H.out.2.2⟩
     clear H hk cn z
     generalize m%n=d at *
     go_wp2_with (go_at_call 83;(with_reducible refine (cr _ M N).mono ?_);rintro _ W1 ⟨⟨v1,rfl,D⟩,hb1⟩;replace N:=N.keep hb1;replace HB:=later HB hb1;clear hb1)
     (go_roundg d
      case measure=>omega
      case rel=>exact⟨n,d,Nat.le_refl _,HB,N,D,H2.out⟩)
theorem size_w (n:Int) (h1:-9223372036854775808<=n) (h2:n<=9223372036854775807) (w:World) :
  Calls Try.prog 68 #[.int .i64 n] w fun r w'=>(∃v,r=.returned v/\BigIs w' v n.natAbs)/\Below w.heap.size w w':=by
 have co:=fun W=>of_w n.natAbs (by omega) W
 have e1:n<0->IntKind.u64.wrap (-IntKind.u64.wrap n)=(n.natAbs:Int):=fun c=>by rw [IntKind.wrap_u64,IntKind.wrap_u64];omega
 have e2:¬n<0->IntKind.u64.wrap n=(n.natAbs:Int):=fun c=>by rw [IntKind.wrap_u64];omega
 generalize n.natAbs=m at *
 by_cases c:n<0
 ·have e:=e1 c
  clear e1 e2
  go_enter Try.func68,Try.ntmps68
  go_wp2_with (go_at_call 84;(with_reducible refine (co _).mono ?_);rintro _ W1 ⟨⟨v1,rfl,D⟩,hb1⟩)
  go_ret
  exact⟨⟨_,rfl,D⟩,hb1⟩
 ·have e:=e2 c
  clear e1 e2
  go_enter Try.func68,Try.ntmps68
  go_wp2_with (go_at_call 84;(with_reducible refine (co _).mono ?_);rintro _ W1 ⟨⟨v1,rfl,D⟩,hb1⟩)
  go_ret
  exact⟨⟨_,rfl,D⟩,hb1⟩
theorem one_w (w:World):Calls Try.prog 69 #[] w fun r w'=>(∃v,r=.returned v/\BigIs w' v 1)/\Below w.heap.size w w':=by
 have co:∀W,Calls Try.prog 84 #[.int .u64 1] W fun e w'=>(∃v',e=.returned v'/\BigIs w' v' 1)/\Below W.heap.size W w':=fun W=>of_w 1 (by omega) W
 go_enter Try.func69,Try.ntmps69
 go_wp2_with (go_at_call 84;(with_reducible refine (co _).mono ?_);rintro _ W1 ⟨⟨v1,rfl,D⟩,hb1⟩)
 go_ret
 exact⟨⟨_,rfl,D⟩,hb1⟩
structure Nm where
 g:Bool
 m:Nat
 e:Int
def Sm (a:Nm):Prop:=a.m<2^2000/\-5000<=a.e/\a.e<=5000
def sumX (a b:Nm):Nm :=
 if a.m=0 then b else if b.m=0 then a else
 if a.g=b.g then ⟨a.g,a.m*2^(a.e-min a.e b.e).toNat+b.m*2^(b.e-min a.e b.e).toNat,min a.e b.e⟩
 else if a.m*2^(a.e-min a.e b.e).toNat=b.m*2^(b.e-min a.e b.e).toNat then ⟨false,0,0⟩
 else if b.m*2^(b.e-min a.e b.e).toNat<a.m*2^(a.e-min a.e b.e).toNat then ⟨a.g,a.m*2^(a.e-min a.e b.e).toNat-b.m*2^(b.e-min a.e b.e).toNat,min a.e b.e⟩
 else ⟨b.g,b.m*2^(b.e-min a.e b.e).toNat-a.m*2^(a.e-min a.e b.e).toNat,min a.e b.e⟩
def prodX (a b:Nm):Nm:=if a.m*b.m=0 then ⟨false,0,0⟩ else ⟨a.g != b.g,a.m*b.m,a.e+b.e⟩
def NI (w:World) (v:Value) (a:Nm):Prop:=∃s,v=.agg #[.bool a.g,s,.int .i64 a.e]/\BigIs w s a.m
theorem NI.keep {w w':World} {v:Value} {a:Nm} (h:NI w v a) (hb:Below w.heap.size w w'):NI w' v a:=by
 obtain⟨s,h1,h2⟩:=h
 exact⟨s,h1,h2.keep hb⟩
theorem NI.shape {w:World} {v:Value} {a:Nm} (h:NI w v a):∃ao l ca,v=.agg #[.bool a.g,.slice ao l ca,.int .i64 a.e]/\(l=0↔a.m=0)/\BigIs w (.slice ao l ca) a.m:=by
 obtain⟨s,h1,h2⟩:=h
 obtain⟨ao,l,ca,rfl,hl⟩:=h2.shape
 exact⟨ao,l,ca,h1,hl,h2⟩
theorem prod_m {w:World} {x y:Value} {a b:Nm} (ha:NI w x a) (hb:NI w y b) (sa:Sm a) (sb:Sm b) :
  Calls Try.prog 86 #[x,y] w fun r w'=>(∃v,r=.returned v/\NI w' v (prodX a b))/\Below w.heap.size w w':=by
 obtain⟨s,rfl,a2⟩:=ha
 obtain⟨t,rfl,b2⟩:=hb
 obtain⟨g,m,e⟩:=a
 obtain⟨h,n,f⟩:=b
 obtain⟨p1,p2,p3⟩:=sa
 obtain⟨q1,q2,q3⟩:=sb
 simp only at *
 refine (prod_w g h s t m n 2000 e f (by omega) p1 q1 (by omega) (by omega) w a2 b2).mono ?_
 rintro _ w' ⟨⟨s',v',E,rfl,hv,z1,z2⟩,hb⟩
 refine⟨⟨_,rfl, ?_⟩,hb⟩
 unfold prodX
 by_cases c:m*n=0
 ·obtain⟨rfl,rfl⟩:=z1 c
  rw [if_pos c]
  rw [c] at hv
  exact⟨v',rfl,hv⟩
 ·obtain⟨rfl,rfl⟩:=z2 c
  rw [if_neg c]
  exact⟨v',rfl,hv⟩
theorem sum_m {w:World} {x y:Value} {a b:Nm} (ha:NI w x a) (hb:NI w y b) (sa:Sm a) (sb:Sm b) :
  Calls Try.prog 85 #[x,y] w fun r w'=>(∃v,r=.returned v/\NI w' v (sumX a b))/\Below w.heap.size w w':=by
 have ha':=ha
 have hb':=hb
 obtain⟨s,rfl,a2⟩:=ha
 obtain⟨t,rfl,b2⟩:=hb
 obtain⟨g,m,e⟩:=a
 obtain⟨h,n,f⟩:=b
 obtain⟨p1,p2,p3⟩:=sa
 obtain⟨q1,q2,q3⟩:=sb
 obtain⟨K,hK⟩:∃K,K=2000:=⟨_,rfl⟩
 rw [<-hK] at p1 q1
 unfold sumX
 simp only at *
 by_cases m0:m=0
 ·subst m0
  rw [if_pos rfl]
  refine (sum_zero_a g h s t n e f w a2 b2).mono ?_
  rintro _ w' ⟨rfl,hb⟩
  exact⟨⟨_,rfl,hb'.keep hb⟩,hb⟩
 ·rw [if_neg m0]
  by_cases n0:n=0
  ·subst n0
   rw [if_pos rfl]
   refine (sum_zero_b g h s t m e f m0 w a2 b2).mono ?_
   rintro _ w' ⟨rfl,hb⟩
   exact⟨⟨_,rfl,ha'.keep hb⟩,hb⟩
  ·rw [if_neg n0]
   clear ha' hb'
   have cl:=fun W (hW:Below w.heap.size w W)=>level_w g h s t m n K e f (by omega) p1 q1 (by omega) (by omega) W (a2.keep hW) (b2.keep hW)
   obtain⟨ao,l,ca,rfl,hl⟩:=a2.shape
   obtain⟨bo,k,cc,rfl,hk⟩:=b2.shape
   have hl0:((l:Int)==0)=false:=by rw [beq_eq_false_iff_ne];intro c;exact m0 (hl.1 (by omega))
   have hk0:((k:Int)==0)=false:=by rw [beq_eq_false_iff_ne];intro c;exact n0 (hk.1 (by omega))
   obtain⟨J,hJ⟩:∃J:Nat,J=10001:=⟨_,rfl⟩
   have P1:m*2^(e-min e f).toNat<2^(K+J):=pow_scale p1 (by omega)
   have P2:n*2^(f-min e f).toNat<2^(K+J):=pow_scale q1 (by omega)
   have hL2:K+J<=1000000:=by omega
   generalize K+J=L at *
   clear hJ hK
   generalize m*2^(e-min e f).toNat=A at *
   generalize n*2^(f-min e f).toNat=B at *
   generalize min e f=E at *
   by_cases hgh:g=h
   ·rw [if_pos hgh]
    refine (sum_same g h ao bo l k ca cc A B e f E w hl0 hk0 cl (A+B) (fun W v1 v2 r1 r2=>plus_w v1 v2 A B L hL2 P1 P2 W r1 r2) hgh).mono ?_
    rintro _ w' ⟨⟨v',rfl,hv⟩,hb⟩
    exact⟨⟨_,rfl,v',rfl,hv⟩,hb⟩
   ·rw [if_neg hgh]
    have hgh':(g==h)=false:=by cases g <;> cases h <;> simp at hgh ⊢
    have cm:=fun W v1 v2 r1 r2=>cmp_w v1 v2 A B L hL2 P1 P2 W r1 r2
    rcases Nat.lt_trichotomy A B with c | c | c
    ·rw [if_neg (by omega),if_neg (by omega)]
     refine (sum_lt g h ao bo l k ca cc A B e f E w hl0 hk0 cl (B-A) (fun W v1 v2 r1 r2=>less_w v2 v1 B A L hL2 P2 (by omega) W r2 r1) _ cm hgh' (cmpN_lt c)).mono ?_
     rintro _ w' ⟨⟨v',rfl,hv⟩,hb⟩
     exact⟨⟨_,rfl,v',rfl,hv⟩,hb⟩
    ·rw [if_pos c]
     refine (sum_eq g h ao bo l k ca cc A B e f E w hl0 hk0 cl _ cm hgh' (cmpN_eq c)).mono ?_
     rintro _ w' ⟨⟨v',rfl,hv⟩,hb⟩
     exact⟨⟨_,rfl,v',rfl,hv⟩,hb⟩
    ·rw [if_neg (by omega),if_pos c]
     refine (sum_gt g h ao bo l k ca cc A B e f E w hl0 hk0 cl (A-B) (fun W v1 v2 r1 r2=>less_w v1 v2 A B L hL2 P1 (by omega) W r1 r2) _ cm hgh' (cmpN_gt c)).mono ?_
     rintro _ w' ⟨⟨v',rfl,hv⟩,hb⟩
     exact⟨⟨_,rfl,v',rfl,hv⟩,hb⟩
theorem natOf_drop_step (ds:List Nat) (k:Nat):natOf (ds.drop k)=ds.getD k 0+4294967296*natOf (ds.drop (k+1)):=by
 rcases Nat.lt_or_ge k ds.length with c | c
 ·rw [List.drop_eq_getElem_cons c,List.getD_eq_getElem?_getD,List.getElem?_eq_getElem c]
  rfl
 ·rw [List.drop_of_length_le c,List.drop_of_length_le (by omega),List.getD_eq_getElem?_getD,List.getElem?_eq_none c]
  rfl
theorem low_step {n d:Nat} (hd:d<4294967296):(d+4294967296*n)%18446744073709551616=(n%18446744073709551616*4294967296)%18446744073709551616+d:=by omega
theorem bitsN_lt {m t:Nat} (h:bitsN m<=t):m<2^t:=by
 by_cases h0:m=0
 ·rw [h0];exact Nat.two_pow_pos t
 ·obtain⟨b,e, -,h2⟩:=bitsN_low h0
  exact Nat.lt_of_lt_of_le h2 (Nat.pow_le_pow_right (by omega) (by omega))
set_option maxHeartbeats 4000000 in
theorem low_w {ao:Option Addr} {l ca:Nat} (m K:Nat) (hK:K<=1000000) (hm:m<2^K) (w:World) (A:BigIs w (.slice ao l ca) m) :
  Calls Try.prog 88 #[.slice ao l ca] w fun r w'=>(∃z:Int,r=.returned (.tuple #[.int .i64 z,.bool (decide ((bitsN m:Int)<=63))])/\(bitsN m<=63->z=(m:Int)))/\Below w.heap.size w w':=by
 have cb:=fun W (q:BigIs W (.slice ao l ca) m)=>bits_w (.slice ao l ca) m K hK hm W q
 have A2:=A
 obtain⟨ds,d1,d2,hds,hrow⟩:=A
 have l1:=d2.len (show natOf ds<2^K by rw [hds];exact hm)
 obtain⟨bo,cb',e,hcb⟩:=hrow.open_
 cases e
 have hLb:ds.length<=1000000:=by omega
 have hcb2:Hid (∀j,j<ds.length->∃gb,ao=some ⟨gb,0,none⟩/\gb<w.heap.size/\w.cell? ⟨gb,j,none⟩=some (.int .u32 (ds.getD j 0:Int))):=fun j hj=>by
  obtain⟨gb,e1,e2,e3⟩:=hcb (by omega)
  exact⟨gb,e1,e2,e3 j hj⟩
 have HM:Hid (bitsN m<=63->m<9223372036854775808):=fun q=>by have:=bitsN_lt q;omega
 have HN:Hid (m=natOf ds):=hds.symm
 clear hcb hrow d2 l1 hm hds
 generalize bitsN m=N at *
 go_enter Try.func88,Try.ntmps88
 go_upto_region 3 with fail
 go_loopg [4,5] ds.length (fun G s4 s5 wx=>Below w.heap.size w wx/\∃(i r:Nat),s5=.int .i64 ((i:Int)-1)/\i<=G/\i<=ds.length/\s4=.int .u64 (r:Int)/\(r:Int)<18446744073709551616/\Hid (r=natOf (ds.drop i)%18446744073709551616))
 case atStart=>exact⟨Below.refl _ _,ds.length,0,rfl,Nat.le_refl _,Nat.le_refl _,rfl,by omega,by show _=_;rw [List.drop_of_length_le (Nat.le_refl _)];rfl⟩
 case round =>
  obtain⟨HB,i,r,rfl,hiG,hil,rfl,hr,H⟩:=hrel
  rcases Nat.eq_zero_or_pos i with rfl | hi0
  ·have hz:Hid (N<=63->wrap64 (r:Int)=(m:Int)):=fun q=>by
    have h1:=HM.out q
    have h2:=H.out
    rw [List.drop_zero,<-HN.out] at h2
    unfold wrap64
    omega
   have AA:=A2.keep HB
   clear H HM HN hcb2 hiG hil
   go_wp2_with (go_at_call 98;(with_reducible refine (cb _ AA).mono ?_);rintro _ _ ⟨rfl,rfl⟩)
   refine bodyPost_ret (v:=.tuple #[.int .i64 (wrap64 (r:Int)),.bool (decide ((N:Int)<=63))]) (by simp [results,Try.results88,go_sem]) rfl ⟨⟨_,rfl,hz.out⟩,HB⟩
  ·obtain⟨j,rfl⟩:∃j,i=j+1:=⟨i-1,by omega⟩
   obtain⟨gb,rfl,hgb,cD0⟩:=hcb2.out j (by omega)
   have cD:=keepsC HB cD0 hgb
   have hD:=d1.getD j
   have hnd:=natOf_drop_step ds j
   have h2:=H.out
   clear cD0
   generalize ds.getD j 0=D at *
   obtain⟨S,hS1⟩:∃S,S=r*4294967296%18446744073709551616:=⟨_,rfl⟩
   have hsh:IntKind.u64.wrap ((r:Int)*4294967296)=(S:Int):=by rw [hS1,IntKind.wrap_u64];omega
   have hor:bits .or .u64 (S:Int) (D:Int)=((S+D:Nat):Int):=by
    rw [u64_or_nat S D (by omega) (by omega),nat_join 32 S D (by rw [hS1];omega) (by omega)]
   obtain⟨T,hT⟩:∃T,T=S+D:=⟨_,rfl⟩
   rw [<-hT] at hor
   have HT:Hid (T=natOf (ds.drop j)%18446744073709551616):=by
    show _=_
    rw [hnd,low_step hD,<-h2,<-hS1]
    exact hT
   have hTl:(T:Int)<18446744073709551616:=by omega
   have hjL:(j:Int)<(ds.length:Int):=by omega
   have h1:(j:Int)+1-1=(j:Int):=by omega
   clear H h2 hnd hS1 hT HM HN hcb2 hi0 A2 cb
   go_wp2_with fail
   go_roundg j
   case measure=>omega
   case rel=>exact⟨HB,j,T,by go_num,Nat.le_refl _,by omega,rfl,hTl,HT⟩
def ofV (neg:Bool) (n d:Nat):Int×Int×Int:=if n=0 then (0,1,0) else if bitsN (n/Nat.gcd n d)<=63/\bitsN (d/Nat.gcd n d)<=63 then (sgnd neg (n/Nat.gcd n d),((d/Nat.gcd n d:Nat):Int),0) else (0,0,3)
def Rt2 (w:World) (b:Nat) (x y:Value):Prop:=w.cell? ⟨b,0,none⟩=some x/\w.cell? ⟨b,1,none⟩=some y/\w.frozen? ⟨b,0,none⟩=false/\w.frozen? ⟨b,1,none⟩=false/\b<w.heap.size
theorem Rt2.keep {w W:World} {b:Nat} {x y:Value} (h:Rt2 w b x y) (k:Below w.heap.size w W):Rt2 W b x y:=⟨keepsC k h.1 h.2.2.2.2,keepsC k h.2.1 h.2.2.2.2,keepsF k h.2.2.1 h.2.2.2.2,keepsF k h.2.2.2.1 h.2.2.2.2,Nat.lt_of_lt_of_le h.2.2.2.2 k.size⟩
theorem rat_new (w:World) (a b:Value) (T:TypeId):Rt2 (w.alloc (.cells #[a,b] T)) w.heap.size a b:=⟨by go_simp,by go_simp,by go_simp,by go_simp,by go_size⟩
set_option maxHeartbeats 4000000 in
theorem ofr_w {ao bo:Option Addr} {l ca k cb:Nat} (neg:Bool) (n d K:Nat) (hK:K<=100000) (hK1:1<=K) (hn:n<2^K) (hd:d<2^K) (hd0:d≠0) (w:World) (A:BigIs w (.slice ao l ca) n) (B:BigIs w (.slice bo k cb) d) :
  Calls Try.prog 72 #[.bool neg,.slice ao l ca,.slice bo k cb] w fun r w'=>r=.returned (.tuple #[.agg #[.int .i64 (ofV neg n d).1,.int .i64 (ofV neg n d).2.1],.int .i64 (ofV neg n d).2.2])/\Below w.heap.size w w':=by
 obtain⟨_,_,_,ez,hl⟩:=A.shape
 cases ez
 have R:=rat_new w (.int .i64 0) (.int .i64 0) 27
 have HB:Below w.heap.size w (w.alloc (.cells #[.int .i64 0,.int .i64 0] 27)):=by go_grown
 by_cases c:n=0
 ·have z:l=0:=hl.2 c
  subst z
  have e:ofV neg n d=(0,1,0):=by unfold ofV;rw [if_pos c]
  rw [e]
  clear e A B hl hn hd hd0
  obtain⟨r0,r1,r2,r3,r4⟩:=id R
  go_enter Try.func72,Try.ntmps72
  go_wp2_with fail
  refine bodyPost_ret (v:=.tuple #[.agg #[.int .i64 0,.int .i64 1],.int .i64 0]) (by simp [results,Try.results72,go_sem, *]) rfl ⟨rfl, ?_⟩
  go_grown
 ·have z:l≠0:=fun q=>c (hl.1 q)
  have z1:((l:Int)==0)=false:=by rw [beq_eq_false_iff_ne];omega
  have g0:0<Nat.gcd n d:=Nat.gcd_pos_of_pos_right _ (by omega)
  have gn:Nat.gcd n d<=n:=Nat.gcd_le_left _ (by omega)
  have e:ofV neg n d=if bitsN (n/Nat.gcd n d)<=63/\bitsN (d/Nat.gcd n d)<=63 then (sgnd neg (n/Nat.gcd n d),((d/Nat.gcd n d:Nat):Int),0) else (0,0,3):=by unfold ofV;rw [if_neg c]
  obtain⟨ov,eo⟩:∃ov,ov=ofV neg n d:=⟨_,rfl⟩
  rw [<-eo]
  rw [e] at eo
  clear e
  replace A:=A.keep HB
  replace B:=B.keep HB
  have cg:=fun W (p:BigIs W (.slice ao l ca) n) (q:BigIs W (.slice bo k cb) d)=>common_w n d K hK hn hd W p q
  generalize Nat.gcd n d=g at *
  have hg:g<2^K:=Nat.lt_of_le_of_lt gn hn
  have cn:=fun W o1 k1 c1 (p:BigIs W (.slice ao l ca) n) (q:BigIs W (.slice o1 k1 c1) g)=>quo_w n g K hK hK1 (by omega) hn hg W p q
  have cd:=fun W o1 k1 c1 (p:BigIs W (.slice bo k cb) d) (q:BigIs W (.slice o1 k1 c1) g)=>quo_w d g K hK hK1 (by omega) hd hg W p q
  have x1:n/g<2^K:=Nat.lt_of_le_of_lt (Nat.div_le_self _ _) hn
  have x2:d/g<2^K:=Nat.lt_of_le_of_lt (Nat.div_le_self _ _) hd
  have lx:=fun W o1 k1 c1 (p:BigIs W (.slice o1 k1 c1) (n/g))=>low_w (n/g) K (by omega) x1 W p
  have ly:=fun W o1 k1 c1 (p:BigIs W (.slice o1 k1 c1) (d/g))=>low_w (d/g) K (by omega) x2 W p
  clear x1 x2 hn hd hd0 hg g0 gn c z hl
  generalize n/g=x at *
  generalize d/g=y at *
  have EO:Hid (ov=if bitsN x<=63/\bitsN y<=63 then (sgnd neg x,(y:Int),0) else (0,0,3)):=eo
  clear eo
  have hx63:Hid (bitsN x<=63->x<9223372036854775808):=fun q=>by have:=bitsN_lt q;omega
  generalize bitsN x=nx at *
  generalize bitsN y=ny at *
  go_enter Try.func72,Try.ntmps72
  go_upto_region 1 with fail
  generalize (w.alloc (.cells #[.int .i64 0,.int .i64 0] 27))=V0 at *
  go_upto_region 4 with (go_at_call 67;(with_reducible refine (cg _ A B).mono ?_);rintro _ V1 ⟨⟨v1,rfl,G1⟩,hb1⟩;obtain⟨o1,k1,c1,rfl, -⟩:=G1.shape;replace A:=A.keep hb1;replace B:=B.keep hb1;replace R:=R.keep hb1;replace HB:=later HB hb1;clear hb1)
  clear cg
  go_upto_region 5 with (first
   | (go_at_call 89;(with_reducible refine (cn _ _ _ _ A G1).mono ?_);rintro _ V2 ⟨⟨v2,rfl,X⟩,hb1⟩;obtain⟨o2,k2,c2,rfl, -⟩:=X.shape;replace G1:=G1.keep hb1;replace B:=B.keep hb1;replace R:=R.keep hb1;replace HB:=later HB hb1;clear hb1)
   | (go_at_call 88;(with_reducible refine (lx _ _ _ _ X).mono ?_);rintro _ V3 ⟨⟨zx,rfl,hx⟩,hb1⟩;replace G1:=G1.keep hb1;replace B:=B.keep hb1;replace R:=R.keep hb1;replace HB:=later HB hb1;clear hb1))
  clear cn lx A X
  go_upto_region 6 with (first
   | (go_at_call 89;(with_reducible refine (cd _ _ _ _ B G1).mono ?_);rintro _ V4 ⟨⟨v4,rfl,Y⟩,hb1⟩;obtain⟨o4,k4,c4,rfl, -⟩:=Y.shape;replace R:=R.keep hb1;replace HB:=later HB hb1;clear hb1)
   | (go_at_call 88;(with_reducible refine (ly _ _ _ _ Y).mono ?_);rintro _ V5 ⟨⟨zy,rfl,hy⟩,hb1⟩;replace R:=R.keep hb1;replace HB:=later HB hb1;clear hb1))
  clear cd ly B Y G1
  obtain⟨r0,r1,r2,r3,r4⟩:=id R
  by_cases b1:(nx:Int)<=63
  ·have e1:=hx (by omega)
   by_cases b2:(ny:Int)<=63
   ·have e2:=hy (by omega)
    subst e1
    subst e2
    have hlt:=hx63.out (by omega)
    clear hx hy hx63
    have EP:Hid (ov=(sgnd neg x,(y:Int),0)):=by show _=_;rw [EO.out,if_pos ⟨by omega,by omega⟩]
    clear EO
    have i1:(x:Int)<9223372036854775808:=by omega
    clear hlt
    cases neg
    ·obtain rfl:=EP.out
     clear EP
     go_wp2_with fail
     refine bodyPost_ret (v:=.tuple #[.agg #[.int .i64 (x:Int),.int .i64 (y:Int)],.int .i64 0]) (by simp [results,Try.results72,go_sem, *]) rfl ⟨rfl, ?_⟩
     repeat' (first | (with_reducible exact HB) | (with_reducible refine Below.setCell ?_ ?_ _) | go_size)
    ·obtain rfl:=EP.out
     clear EP
     go_wp2_with fail
     refine bodyPost_ret (v:=.tuple #[.agg #[.int .i64 (-(x:Int)),.int .i64 (y:Int)],.int .i64 0]) (by simp [results,Try.results72,go_sem, *]) rfl ⟨rfl, ?_⟩
     repeat' (first | (with_reducible exact HB) | (with_reducible refine Below.setCell ?_ ?_ _) | go_size)
   ·obtain rfl:ov=(0,0,3):=by rw [EO.out,if_neg (fun q=>b2 (by omega))]
    clear hx hy hx63 EO
    go_wp2_with fail
    refine bodyPost_ret (v:=.tuple #[.agg #[.int .i64 0,.int .i64 0],.int .i64 3]) (by simp [results,Try.results72,go_sem, *]) rfl ⟨rfl, ?_⟩
    repeat' (first | (with_reducible exact HB) | (with_reducible refine Below.setCell ?_ ?_ _) | go_size)
  ·obtain rfl:ov=(0,0,3):=by rw [EO.out,if_neg (fun q=>b1 (by omega))]
   clear hx hy hx63 EO
   go_wp2_with fail
   refine bodyPost_ret (v:=.tuple #[.agg #[.int .i64 0,.int .i64 0],.int .i64 3]) (by simp [results,Try.results72,go_sem, *]) rfl ⟨rfl, ?_⟩
   repeat' (first | (with_reducible exact HB) | (with_reducible refine Below.setCell ?_ ?_ _) | go_size)
end Go.Proofs.Ytbejmklkicoibaa
