/- The reference's numbers of stage 11: how often a divisor is in a number, the greatest common divisor, amounts. -/
import Derived.Test.YtdnpoacjamkhkaaJt13
namespace Go.Proofs.Ytdnpoacjamkhkaa
open Go.ChangeShapes Go.WideShapes Go.ChangeAt Go.RowKit
theorem quo_step {b q r R k:Nat} (h:R=b*(q*2^(k+1))+r) (hl:r<b*2^(k+1)):(b*2^k≤r→R=b*((q*2^1+1)*2^k)+(r-b*2^k)∧r-b*2^k<b*2^k)∧(¬b*2^k≤r→R=b*(q*2^1*2^k)+r∧r<b*2^k):=by
 have e1:b*(q*2^(k+1))=b*(q*2^1*2^k):=by rw [Nat.mul_assoc q,←Nat.pow_add,Nat.add_comm 1 k]
 have e2:b*2^(k+1)=b*2^k+b*2^k:=by rw [Nat.pow_succ];rw [←Nat.mul_assoc];omega
 rw [e1] at h
 rw [e2] at hl
 have e3:b*((q*2^1+1)*2^k)=b*(q*2^1*2^k)+b*2^k:=by rw [Nat.add_mul,Nat.one_mul,Nat.mul_add]
 rw [e3]
 constructor
 · intro c;omega
 · intro c;omega
theorem quo_end {b q r R:Nat} (h:R=b*(q*2^0)+r) (hl:r<b*2^0):q=R/b:=by
 rw [Nat.pow_zero,Nat.mul_one] at h hl
 rw [h,Nat.mul_add_div (by omega),Nat.div_eq_of_lt hl,Nat.add_zero]
theorem quo_small {b q r R k:Nat} (hb:b≠0) (h:R=b*(q*2^k)+r):q≤R:=by
 have h1:q*1≤q*2^k:=Nat.mul_le_mul_left _ (Nat.two_pow_pos k)
 have h2:1*(q*2^k)≤b*(q*2^k):=Nat.mul_le_mul_right _ (by omega)
 omega
set_option maxHeartbeats 4000000 in
theorem quo_w {ao bo:Option Addr} {l ca k cb:Nat} (a b K:Nat) (hK:K≤100000) (hK1:1≤K) (hb0:b≠0) (ha:a<2^K) (hb:b<2^K) (w:World) (A:BigIs w (.slice ao l ca) a) (B:BigIs w (.slice bo k cb) b) :
   Calls Try.prog 74 #[.slice ao l ca,.slice bo k cb] w fun r w'=>(∃v,r=.returned v∧BigIs w' v (a/b))∧Below w.heap.size w w':=by
 have HB:Below w.heap.size w (w.alloc (.cells #[] 90)):=by go_grown
 have Q0:BigIs (w.alloc (.cells #[] 90)) (.slice (some ⟨w.heap.size,0,none⟩) 0 0) 0:=⟨[],Digs.nil,trimmed_nil,rfl,(own_empty w).row⟩
 replace A:=A.keep HB
 replace B:=B.keep HB
 have n1:=bitsN_le ha
 have n2:=bitsN_le hb
 have HS:Hid (a<b*2^((bitsN a:Int)-(bitsN b:Int)+1).toNat):=div_start hb0
 have c1:=fun W (q:BigIs W (.slice ao l ca) a)=>bits_w (.slice ao l ca) a K (by omega) ha W q
 have c2:=fun W (q:BigIs W (.slice bo k cb) b)=>bits_w (.slice bo k cb) b K (by omega) hb W q
 generalize bitsN a=Na at *
 generalize bitsN b=Nb at *
 have i1:(Na:Int)≤100000:=by omega
 have i2:(Nb:Int)≤100000:=by omega
 go_enter Try.func74,Try.ntmps74
 go_upto_region 2 with fail
 generalize w.alloc (.cells #[] 90)=V1 at *
 go_upto_region 3 with (first
   | (go_at_call_of 84 (Value.slice ao l ca);(with_reducible refine (c1 _ A).mono ?_);rintro _ _ ⟨rfl,rfl⟩)
   | (go_at_call_of 84 (Value.slice bo k cb);(with_reducible refine (c2 _ B).mono ?_);rintro _ _ ⟨rfl,rfl⟩))
 clear c1 c2 n1 n2
 have HK:Hid (a<2^K∧b<2^K∧b≠0∧1<2^K):=⟨ha,hb,hb0,Nat.lt_of_lt_of_le (show 1<2^1 by decide) (Nat.pow_le_pow_right (by omega) hK1)⟩
 clear ha hb hb0
 go_loopg [0,5,6] (200001:Nat) (fun G s0 s5 s6 wx=>∃(z:Int) (r q:Nat),s6=.int .i64 z∧-100000≤z∧z≤100000∧z+100001≤(G:Int)∧Below w.heap.size w wx∧Below V1.heap.size V1 wx∧BigIs wx s0 r∧BigIs wx s5 q∧Hid (a=b*(q*2^(z+1).toNat)+r∧r<b*2^(z+1).toNat))
 case atStart=>exact⟨(Na:Int)-Nb,a,0,rfl,by omega,by omega,by omega,HB,Below.refl _ _,A,Q0,by rw [Nat.zero_mul,Nat.mul_zero,Nat.zero_add],HS.out⟩
 case round =>
   clear HS A Q0 HB
   obtain⟨z,r,q,rfl,z1,z2,zG,HB,HV,R,Q,H⟩:=hrel
   obtain⟨o0,k0,c0,rfl, -⟩:=R.shape
   obtain⟨o5,k5,c5,rfl, -⟩:=Q.shape
   by_cases cz:z<0
   · have cz':¬(0:Int)≤z:=by omega
     have e:q=a/b:=by
       obtain⟨h1,h3⟩:=H.out
       rw [show (z+1).toNat=0 by omega] at h1 h3
       exact quo_end h1 h3
     rw [e] at Q
     clear H HK e
     go_wp2_with fail
     go_ret
     exact⟨⟨_,rfl,Q⟩,HB⟩
   · have cz':(0:Int)≤z:=by omega
     obtain⟨t,rfl⟩:∃t:Nat,z=(t:Int):=⟨z.toNat,by omega⟩
     have h3:=H.out
     rw [show ((t:Int)+1).toNat=t+1 by omega] at h3
     have st:=quo_step h3.1 h3.2
     obtain⟨ka,kb,kn,k1⟩:=HK.out
     have hr:r≤a:=by have:=h3.1;omega
     have hq2:q≤a:=quo_small kn h3.1
     have BB:=B.keep HV
     have cl:=fun W (q:BigIs W (.slice bo k cb) b)=>left_w (.slice bo k cb) b t (t/32) (t%32) K (by omega) kb (by omega) (by omega) (by omega) W q
     have cl1:∀W,BigIs W (.slice o5 k5 c5) q→Calls Try.prog 101 #[.slice o5 k5 c5,.int .i64 1] W fun e w'=>(∃v',e=.returned v'∧BigIs w' v' (q*2^1))∧Below W.heap.size W w':=fun W p=>left_w (.slice o5 k5 c5) q 1 0 1 K (by omega) (Nat.lt_of_le_of_lt hq2 ka) (by omega) (by omega) (by omega) W p
     have q1:b*2^t<2^(K+t):=bits_room kb
     have q2:r<2^(K+t):=pow_up (Nat.lt_of_le_of_lt hr ka)
     have q3:q*2^1<2^(K+1):=bits_room (Nat.lt_of_le_of_lt hq2 ka)
     have cc:=fun W v1 v2 (p1:BigIs W v1 (b*2^t)) (p2:BigIs W v2 r)=>cmp_w v1 v2 (b*2^t) r (K+t) (by omega) q1 q2 W p1 p2
     have cs:=fun W v1 v2 (h:b*2^t≤r) (p1:BigIs W v1 r) (p2:BigIs W v2 (b*2^t))=>less_w v1 v2 r (b*2^t) (K+t) (by omega) q2 h W p1 p2
     have cp:=fun W v1 v2 (p1:BigIs W v1 (q*2^1)) (p2:BigIs W v2 1)=>plus_w v1 v2 (q*2^1) 1 (K+1) (by omega) q3 (pow_up k1) W p1 p2
     have co:∀W,Calls Try.prog 75 #[.int .u64 1] W fun e w'=>(∃v',e=.returned v'∧BigIs w' v' 1)∧Below W.heap.size W w':=fun W=>of_w 1 (by omega) W
     have H2:Hid (((t:Int)-1+1).toNat=t):=by show _=_;omega
     have ST:Hid ((b*2^t≤r→a=b*((q*2^1+1)*2^t)+(r-b*2^t)∧r-b*2^t<b*2^t)∧(¬b*2^t≤r→a=b*(q*2^1*2^t)+r∧r<b*2^t)):=st
     clear st h3 hr hq2 q1 q2 q3 H HK ka kb kn k1
     have HD:∃d,Hid (b*2^t=d):=⟨_,rfl⟩
     obtain⟨d,HD⟩:=HD
     rw [HD.out] at cl cc cs
     have HQ:∃u,Hid (q*2^1=u):=⟨_,rfl⟩
     obtain⟨u,HQ⟩:=HQ
     rw [HQ.out] at cl1 cp
     go_upto_region 6 with (first
       | (go_at_call_of 101 (Value.slice bo k cb);(with_reducible refine (cl _ BB).mono ?_);rintro _ W1 ⟨⟨v1,rfl,D⟩,hb1⟩;obtain⟨o1,k1,c1,rfl, -⟩:=D.shape;replace R:=R.keep hb1;replace Q:=Q.keep hb1;replace HB:=later HB hb1;replace HV:=later HV hb1;clear hb1 BB)
       | (go_at_call_of 101 (Value.slice o5 k5 c5);(with_reducible refine (cl1 _ Q).mono ?_);rintro _ W2 ⟨⟨v2,rfl,U⟩,hb1⟩;obtain⟨o2,k2,c2,rfl, -⟩:=U.shape;replace R:=R.keep hb1;replace D:=D.keep hb1;replace HB:=later HB hb1;replace HV:=later HV hb1;clear hb1))
     clear Q cl cl1
     by_cases cd:d≤r
     · have cm:=cmpN_le cd
       have H4:Hid (a=b*((u+1)*2^((t:Int)-1+1).toNat)+(r-d)∧r-d<b*2^((t:Int)-1+1).toNat):=by
         have e:=ST.out.1 (by rw [HD.out];exact cd)
         rw [HD.out,HQ.out] at e
         refine⟨by rw [H2.out];exact e.1,by rw [H2.out,HD.out];exact e.2⟩
       clear ST H2 HD HQ
       generalize cmpN d r=y at *
       go_wp2_with (first
         | (go_at_call 41;(with_reducible refine (cc _ _ _ D R).mono ?_);rintro _ W3 ⟨rfl,hb1⟩;replace R:=R.keep hb1;replace D:=D.keep hb1;replace U:=U.keep hb1;replace HB:=later HB hb1;replace HV:=later HV hb1;clear hb1)
         | (go_at_call 81;(with_reducible refine (cs _ _ _ cd R D).mono ?_);rintro _ W4 ⟨⟨v4,rfl,E⟩,hb1⟩;replace U:=U.keep hb1;replace HB:=later HB hb1;replace HV:=later HV hb1;clear hb1)
         | (go_at_call 75;(with_reducible refine (co _).mono ?_);rintro _ W5 ⟨⟨v5,rfl,O⟩,hb1⟩;replace U:=U.keep hb1;replace E:=E.keep hb1;replace HB:=later HB hb1;replace HV:=later HV hb1;clear hb1)
         | (go_at_call 80;(with_reducible refine (cp _ _ _ U O).mono ?_);rintro _ W6 ⟨⟨v6,rfl,Y⟩,hb1⟩;replace E:=E.keep hb1;replace HB:=later HB hb1;replace HV:=later HV hb1;clear hb1))
       (go_roundg (t+100000)
        case measure=>omega
        case rel=>exact⟨(t:Int)-1,r-d,u+1,by go_num,by omega,by omega,by omega,HB,HV,E,Y,H4.out⟩)
     · have cm:=cmpN_nle cd
       have H4:Hid (a=b*(u*2^((t:Int)-1+1).toNat)+r∧r<b*2^((t:Int)-1+1).toNat):=by
         have e:=ST.out.2 (by rw [HD.out];exact cd)
         rw [HD.out,HQ.out] at e
         refine⟨by rw [H2.out];exact e.1,by rw [H2.out,HD.out];exact e.2⟩
       clear ST H2 HD HQ
       generalize cmpN d r=y at *
       go_wp2_with (first
         | (go_at_call 41;(with_reducible refine (cc _ _ _ D R).mono ?_);rintro _ W3 ⟨rfl,hb1⟩;replace R:=R.keep hb1;replace U:=U.keep hb1;replace HB:=later HB hb1;replace HV:=later HV hb1;clear hb1))
       (go_roundg (t+100000)
        case measure=>omega
        case rel=>exact⟨(t:Int)-1,r,u,by go_num,by omega,by omega,by omega,HB,HV,R,U,H4.out⟩)
theorem gcd_step (a b:Nat):Nat.gcd b (a%b)=Nat.gcd a b:=by rw [Nat.gcd_comm b,←Nat.gcd_rec,Nat.gcd_comm]
set_option maxHeartbeats 4000000 in
theorem common_w {ao bo:Option Addr} {l ca k cb:Nat} (a b K:Nat) (hK:K≤100000) (ha:a<2^K) (hb:b<2^K) (w:World) (A:BigIs w (.slice ao l ca) a) (B:BigIs w (.slice bo k cb) b) :
   Calls Try.prog 42 #[.slice ao l ca,.slice bo k cb] w fun r w'=>(∃v,r=.returned v∧BigIs w' v (Nat.gcd a b))∧Below w.heap.size w w':=by
 have HK:Hid (a<2^K∧b<2^K):=⟨ha,hb⟩
 clear ha hb
 go_enter Try.func42,Try.ntmps42
 go_upto_region 1 with fail
 go_loopg [0,1] b (fun G s0 s1 wx=>∃(m n:Nat),n≤G∧Below w.heap.size w wx∧BigIs wx s0 m∧BigIs wx s1 n∧Hid (Nat.gcd m n=Nat.gcd a b∧m<2^K∧n<2^K))
 case atStart=>exact⟨a,b,Nat.le_refl _,Below.refl _ _,A,B,rfl,HK.out.1,HK.out.2⟩
 case round =>
   clear A B HK
   obtain⟨m,n,hG,HB,M,N,H⟩:=hrel
   obtain⟨o0,k0,c0,rfl, -⟩:=M.shape
   obtain⟨o1,k1,c1,rfl,hk⟩:=N.shape
   by_cases cn:n=0
   · have z:k1=0:=hk.2 cn
     subst z
     have e:m=Nat.gcd a b:=by rw [←H.out.1,cn,Nat.gcd_zero_right]
     rw [e] at M
     clear e H hk
     go_wp2_with fail
     go_ret
     exact⟨⟨_,rfl,M⟩,HB⟩
   · have z:k1≠0:=fun q=>cn (hk.1 q)
     have z1:0<k1:=by omega
     have z2:(0:Int)<(k1:Int):=by omega
     have cr:=fun W (p:BigIs W (.slice o0 k0 c0) m) (q:BigIs W (.slice o1 k1 c1) n)=>rest_w m n K hK cn H.out.2.1 H.out.2.2 W p q
     have lt:=Nat.mod_lt m (show 0<n by omega)
     have H2:Hid (Nat.gcd n (m%n)=Nat.gcd a b∧n<2^K∧m%n<2^K):=⟨by rw [gcd_step];exact H.out.1,H.out.2.2,Nat.lt_trans lt H.out.2.2⟩
     clear H hk cn z
     generalize m%n=d at *
     go_wp2_with (go_at_call 76;(with_reducible refine (cr _ M N).mono ?_);rintro _ W1 ⟨⟨v1,rfl,D⟩,hb1⟩;replace N:=N.keep hb1;replace HB:=later HB hb1;clear hb1)
     (go_roundg d
      case measure=>omega
      case rel=>exact⟨n,d,Nat.le_refl _,HB,N,D,H2.out⟩)
theorem size_w (n:Int) (h1:-9223372036854775808≤n) (h2:n≤9223372036854775807) (w:World) :
   Calls Try.prog 40 #[.int .i64 n] w fun r w'=>(∃v,r=.returned v∧BigIs w' v n.natAbs)∧Below w.heap.size w w':=by
 have co:=fun W=>of_w n.natAbs (by omega) W
 have e1:n<0→IntKind.u64.wrap (-IntKind.u64.wrap n)=(n.natAbs:Int):=fun c=>by rw [IntKind.wrap_u64,IntKind.wrap_u64];omega
 have e2:¬n<0→IntKind.u64.wrap n=(n.natAbs:Int):=fun c=>by rw [IntKind.wrap_u64];omega
 generalize n.natAbs=m at *
 by_cases c:n<0
 · have e:=e1 c
   clear e1 e2
   go_enter Try.func40,Try.ntmps40
   go_wp2_with (go_at_call 75;(with_reducible refine (co _).mono ?_);rintro _ W1 ⟨⟨v1,rfl,D⟩,hb1⟩)
   go_ret
   exact⟨⟨_,rfl,D⟩,hb1⟩
 · have e:=e2 c
   clear e1 e2
   go_enter Try.func40,Try.ntmps40
   go_wp2_with (go_at_call 75;(with_reducible refine (co _).mono ?_);rintro _ W1 ⟨⟨v1,rfl,D⟩,hb1⟩)
   go_ret
   exact⟨⟨_,rfl,D⟩,hb1⟩
theorem one_w (w:World):Calls Try.prog 43 #[] w fun r w'=>(∃v,r=.returned v∧BigIs w' v 1)∧Below w.heap.size w w':=by
 have co:∀W,Calls Try.prog 75 #[.int .u64 1] W fun e w'=>(∃v',e=.returned v'∧BigIs w' v' 1)∧Below W.heap.size W w':=fun W=>of_w 1 (by omega) W
 go_enter Try.func43,Try.ntmps43
 go_wp2_with (go_at_call 75;(with_reducible refine (co _).mono ?_);rintro _ W1 ⟨⟨v1,rfl,D⟩,hb1⟩)
 go_ret
 exact⟨⟨_,rfl,D⟩,hb1⟩
end Go.Proofs.Ytdnpoacjamkhkaa
