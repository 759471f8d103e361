/- The program's whole numbers of one and two words (rat): amounts, divisors, halves, products. The program's whole numbers of two words (rat): products, sums, negatives, signs. The program's whole numbers of two words (rat): sums, negatives, products with a sign. The program's whole numbers of two words (rat): division bit by bit. The reference's numbers of stage 11: what is left by a divisor, how often it is in. -/
import Derived.Test.YtpiffjpokmhmpaaGreatDoorZt01
import Derived.BigQuiet
import Derived.Deep.LoopGhost
import Derived.Deep.CutRange
import Derived.Test.YtpiffjpokmhmpaaGreatDoorZt05
import Derived.Deep.Quiet
import Derived.StillTail
import Derived.Test.YtpiffjpokmhmpaaGreatDoorZt03
namespace Go.Proofs.YtpiffjpokmhmpaaGreatDoor
open Go.ChangeShapes Go.WideShapes Go.ChangeAt Go.RowKit
theorem ramount_w (n:Int) (h1:-9223372036854775808≤n) (h2:n≤9223372036854775807) (w:World) :
   Calls Tryz.prog 79 #[.int .i64 n] w fun r w'=>r=.returned (.int .u64 ((n.natAbs:Nat):Int))∧w=w':=by
 have e1:n<0→IntKind.u64.wrap (-IntKind.u64.wrap n)=(n.natAbs:Int):=fun c=>by rw [IntKind.wrap_u64,IntKind.wrap_u64];omega
 have e2:¬n<0→IntKind.u64.wrap n=(n.natAbs:Int):=fun c=>by rw [IntKind.wrap_u64];omega
 generalize n.natAbs=m at *
 by_cases c:n<0
 · have e:=e1 c
   clear e1 e2
   go_enter Tryz.func79,Tryz.ntmps79
   go_wp2_with fail
   go_ret
   exact⟨rfl,rfl⟩
 · have e:=e2 c
   clear e1 e2
   go_enter Tryz.func79,Tryz.ntmps79
   go_wp2_with fail
   go_ret
   exact⟨rfl,rfl⟩
theorem rem_u64 (m n:Nat):Int.tmod (m:Int) (n:Int)=((m%n:Nat):Int):=rfl
theorem quo_u64 (m n:Nat):Int.tdiv (m:Int) (n:Int)=((m/n:Nat):Int):=rfl
theorem rlow_w (a:Nat) (w:World) :
   Calls Tryz.prog 93 #[.int .u64 (a:Int)] w fun r w'=>r=.returned (.int .u64 ((a%4294967296:Nat):Int))∧w=w':=by
 have e1:IntKind.u32.wrap (a:Int)=((a%4294967296:Nat):Int):=by rw [IntKind.wrap_u32];omega
 have e2:IntKind.u64.wrap ((a%4294967296:Nat):Int)=((a%4294967296:Nat):Int):=by rw [IntKind.wrap_u64];omega
 generalize a%4294967296=m at *
 go_enter Tryz.func93,Tryz.ntmps93
 go_wp2_with fail
 go_ret
 exact⟨rfl,rfl⟩
theorem rhalves_w (a:Nat) (w:World) :
   Calls Tryz.prog 92 #[.int .u64 (a:Int)] w fun r w'=>r=.returned (.tuple #[.int .u64 ((a/4294967296:Nat):Int),.int .u64 ((a%4294967296:Nat):Int)])∧w=w':=by
 have c:=fun W=>rlow_w a W
 have e1:(a:Int)/4294967296=((a/4294967296:Nat):Int):=by omega
 generalize a%4294967296=m at *
 generalize a/4294967296=n at *
 go_enter Tryz.func92,Tryz.ntmps92
 go_wp2_with (go_at_call 93;(with_reducible refine (c _).mono ?_);rintro _ _ ⟨rfl,rfl⟩)
 go_ret2
 exact⟨rfl,rfl⟩
def Sg (h l:Nat) (z:Int):Prop:=h<18446744073709551616∧l<18446744073709551616∧((h*18446744073709551616+l:Nat):Int)=z%340282366920938463463374607431768211456
theorem sg_ex (z:Int):∃h l,Sg h l z:=by
 refine⟨(z%340282366920938463463374607431768211456).toNat/18446744073709551616,(z%340282366920938463463374607431768211456).toNat%18446744073709551616, ?_, ?_, ?_⟩ <;> omega
theorem Sg.uniq {h l h' l':Nat} {z:Int} (a:Sg h l z) (b:Sg h' l' z):h=h'∧l=l':=by
 obtain⟨a1,a2,a3⟩:=a
 obtain⟨b1,b2,b3⟩:=b
 omega
theorem Sg.nat {h l:Nat} {z:Int} (a:Sg h l z) (h0:0≤z) (h1:z<340282366920938463463374607431768211456):((h*18446744073709551616+l:Nat):Int)=z:=by
 obtain⟨a1,a2,a3⟩:=a
 omega
set_option maxHeartbeats 1000000 in
theorem wprod_core (a b ah al bh bl low lowh lowl p10 mid midl midh p01 kept kepth k2 p11 t hi lo:Nat)
   (c1:∀W,Calls Tryz.prog 92 #[.int .u64 (a:Int)] W fun r w'=>r=.returned (.tuple #[.int .u64 (ah:Int),.int .u64 (al:Int)])∧W=w')
   (c2:∀W,Calls Tryz.prog 92 #[.int .u64 (b:Int)] W fun r w'=>r=.returned (.tuple #[.int .u64 (bh:Int),.int .u64 (bl:Int)])∧W=w')
   (c3:∀W,Calls Tryz.prog 93 #[.int .u64 (mid:Int)] W fun r w'=>r=.returned (.int .u64 (midl:Int))∧W=w')
   (c4:∀W,Calls Tryz.prog 93 #[.int .u64 (low:Int)] W fun r w'=>r=.returned (.int .u64 (lowl:Int))∧W=w')
   (e1:IntKind.u64.wrap ((al:Int)*(bl:Int))=(low:Int)) (e2:(low:Int)/4294967296=(lowh:Int)) (e3:IntKind.u64.wrap ((ah:Int)*(bl:Int))=(p10:Int)) (e4:IntKind.u64.wrap ((p10:Int)+(lowh:Int))=(mid:Int))
   (e5:IntKind.u64.wrap ((al:Int)*(bh:Int))=(p01:Int)) (e6:IntKind.u64.wrap ((p01:Int)+(midl:Int))=(kept:Int)) (e7:IntKind.u64.wrap ((ah:Int)*(bh:Int))=(p11:Int)) (e8:(mid:Int)/4294967296=(midh:Int))
   (e9:IntKind.u64.wrap ((p11:Int)+(midh:Int))=(t:Int)) (e10:(kept:Int)/4294967296=(kepth:Int)) (e11:IntKind.u64.wrap ((t:Int)+(kepth:Int))=(hi:Int)) (e12:IntKind.u64.wrap ((kept:Int)*4294967296)=(k2:Int)) (e13:bits .or .u64 (k2:Int) (lowl:Int)=(lo:Int)) (w:World) :
   Calls Tryz.prog 88 #[.int .u64 (a:Int),.int .u64 (b:Int)] w fun r w'=>r=.returned (.agg #[.int .u64 (hi:Int),.int .u64 (lo:Int)])∧Below w.heap.size w w':=by
 go_enter Tryz.func88,Tryz.ntmps88
 go_wp2_with (first
   | (go_at_call_of 92 (Value.int .u64 (a:Int));(with_reducible refine (c1 _).mono ?_);rintro _ _ ⟨rfl,rfl⟩)
   | (go_at_call_of 92 (Value.int .u64 (b:Int));(with_reducible refine (c2 _).mono ?_);rintro _ _ ⟨rfl,rfl⟩)
   | (go_at_call_of 93 (Value.int .u64 (mid:Int));(with_reducible refine (c3 _).mono ?_);rintro _ _ ⟨rfl,rfl⟩)
   | (go_at_call_of 93 (Value.int .u64 (low:Int));(with_reducible refine (c4 _).mono ?_);rintro _ _ ⟨rfl,rfl⟩))
 refine bodyPost_ret (v:=.agg #[.int .u64 (hi:Int),.int .u64 (lo:Int)]) (by simp [results,Tryz.results88,go_sem, *]) rfl ⟨rfl, ?_⟩
 go_grown
theorem or32 (k m:Nat) (hm:m<4294967296) (hk:k*4294967296<18446744073709551616):bits .or .u64 ((k*4294967296:Nat):Int) (m:Int)=((k*4294967296+m:Nat):Int):=by
 have e:k*4294967296 ||| m=k*4294967296+m:=by
   have:=Nat.two_pow_add_eq_or_of_lt (i:=32) (b:=m) (by simpa using hm) k
   rw [show 2^32*k=k*4294967296 by omega] at this
   exact this.symm
 rw [u64_or_nat (k*4294967296) m (by omega) (by omega),e]
theorem lower_word {p00 p10 p01 p11 P h l mid kept:Nat} (hP:P=p11*18446744073709551616+(p10+p01)*4294967296+p00) (hm:mid=p10+p00/4294967296) (hk:kept=p01+mid%4294967296) (hn:h*18446744073709551616+l=P) (hl:l<18446744073709551616):l=kept%4294967296*4294967296+p00%4294967296:=by
 have e1:p00=p00/4294967296*4294967296+p00%4294967296:=by omega
 have e2:mid=mid/4294967296*4294967296+mid%4294967296:=by omega
 have e3:kept=kept/4294967296*4294967296+kept%4294967296:=by omega
 have b1:p00%4294967296<4294967296:=Nat.mod_lt _ (by omega)
 have b3:kept%4294967296<4294967296:=Nat.mod_lt _ (by omega)
 generalize p00/4294967296=a at *
 generalize p00%4294967296=b at *
 generalize mid/4294967296=c at *
 generalize mid%4294967296=d at *
 generalize kept/4294967296=e at *
 generalize kept%4294967296=f at *
 subst e1
 have:h*18446744073709551616+l=(p11+c+e)*18446744073709551616+(f*4294967296+b):=by omega
 have u1:=congrArg (·%18446744073709551616) this
 rw [Nat.mul_comm h,Nat.mul_comm (p11+c+e),Nat.mul_add_mod,Nat.mul_add_mod,Nat.mod_eq_of_lt hl,Nat.mod_eq_of_lt (by omega)] at u1
 exact u1
theorem wprod_w (a b h l:Nat) (ha:a<18446744073709551616) (hb:b<18446744073709551616) (S:Sg h l ((a:Int)*(b:Int))) (w:World) :
   Calls Tryz.prog 88 #[.int .u64 (a:Int),.int .u64 (b:Int)] w fun r w'=>r=.returned (.agg #[.int .u64 (h:Int),.int .u64 (l:Int)])∧Below w.heap.size w w':=by
 have le:∀a b:Nat,a<4294967296→b<4294967296→a*b≤18446744065119617025:=fun a b h k=>Nat.mul_le_mul (show a≤4294967295 by omega) (show b≤4294967295 by omega)
 have b00:=le (a%4294967296) (b%4294967296) (by omega) (by omega)
 have b10:=le (a/4294967296) (b%4294967296) (by omega) (by omega)
 have b01:=le (a%4294967296) (b/4294967296) (by omega) (by omega)
 have b11:=le (a/4294967296) (b/4294967296) (by omega) (by omega)
 have hP:a*b=a/4294967296*(b/4294967296)*18446744073709551616+(a/4294967296*(b%4294967296)+a%4294967296*(b/4294967296))*4294967296+a%4294967296*(b%4294967296):=by
   have ex:a=a/4294967296*4294967296+a%4294967296:=by omega
   have ey:b=b/4294967296*4294967296+b%4294967296:=by omega
   generalize a/4294967296=u at *
   generalize a%4294967296=v at *
   generalize b/4294967296=r at *
   generalize b%4294967296=q at *
   subst ex ey
   grind
 have hlt:a*b<18446744073709551616*18446744073709551616:=Nat.mul_lt_mul'' ha hb
 have kxy:(a:Int)*(b:Int)=((a*b:Nat):Int):=(Int.natCast_mul _ _).symm
 have hn:=S.nat (by rw [kxy];omega) (by rw [kxy];generalize a*b=z at *;omega)
 obtain⟨s1,s2, -⟩:=S
 rw [kxy] at hn
 have k00:(((a%4294967296:Nat):Int))*((b%4294967296:Nat):Int)=((a%4294967296*(b%4294967296):Nat):Int):=(Int.natCast_mul _ _).symm
 have k10:(((a/4294967296:Nat):Int))*((b%4294967296:Nat):Int)=((a/4294967296*(b%4294967296):Nat):Int):=(Int.natCast_mul _ _).symm
 have k01:(((a%4294967296:Nat):Int))*((b/4294967296:Nat):Int)=((a%4294967296*(b/4294967296):Nat):Int):=(Int.natCast_mul _ _).symm
 have k11:(((a/4294967296:Nat):Int))*((b/4294967296:Nat):Int)=((a/4294967296*(b/4294967296):Nat):Int):=(Int.natCast_mul _ _).symm
 have c1:=fun W=>rhalves_w a W
 have c2:=fun W=>rhalves_w b W
 generalize a%4294967296*(b%4294967296)=p00 at *
 generalize a/4294967296*(b%4294967296)=p10 at *
 generalize a%4294967296*(b/4294967296)=p01 at *
 generalize a/4294967296*(b/4294967296)=p11 at *
 generalize a*b=P at *
 obtain⟨mid,hm⟩:∃m,m=p10+p00/4294967296:=⟨_,rfl⟩
 obtain⟨kept,hk⟩:∃m,m=p01+mid%4294967296:=⟨_,rfl⟩
 have ho:=or32 (kept%4294967296) (p00%4294967296) (by omega) (by omega)
 refine wprod_core a b _ _ _ _ p00 (p00/4294967296) (p00%4294967296) p10 mid (mid%4294967296) (mid/4294967296) p01 kept (kept/4294967296) (kept%4294967296*4294967296) p11 (p11+mid/4294967296) h l
   c1 c2 (fun W=>rlow_w mid W) (fun W=>rlow_w p00 W) ?_ (by omega) ?_ ?_ ?_ ?_ ?_ (by omega) ?_ (by omega) ?_ ?_ ?_ w
 · rw [k00,IntKind.wrap_u64];omega
 · rw [k10,IntKind.wrap_u64];omega
 · rw [IntKind.wrap_u64];omega
 · rw [k01,IntKind.wrap_u64];omega
 · rw [IntKind.wrap_u64];omega
 · rw [k11,IntKind.wrap_u64];omega
 · rw [IntKind.wrap_u64];omega
 · rw [IntKind.wrap_u64];omega
 · rw [IntKind.wrap_u64];omega
 · rw [ho];exact congrArg Int.ofNat (lower_word hP hm hk (by exact_mod_cast hn) s2).symm
theorem wroom_w (h l:Nat) (w:World) :
   Calls Tryz.prog 87 #[.agg #[.int .u64 (h:Int),.int .u64 (l:Int)]] w fun r w'=>r=.returned (.bool (decide (h=0)&&decide (l≤9223372036854775807)))∧Below w.heap.size w w':=by
 by_cases c:h=0
 · subst c
   have e:(decide ((l:Int)≤9223372036854775807))=decide (l≤9223372036854775807):=by
     by_cases q:l≤9223372036854775807
     · rw [decide_eq_true q,decide_eq_true (by omega)]
     · rw [decide_eq_false q,decide_eq_false (by omega)]
   have z:decide ((0:Nat)=0)=true:=rfl
   rw [z,Bool.true_and]
   clear z
   generalize decide (l≤9223372036854775807)=b at *
   go_enter Tryz.func87,Tryz.ntmps87
   go_wp2_with fail
   go_ret
   exact⟨rfl,by go_grown⟩
 · have e:((h:Int)==0)=false:=by simpa using c
   have e2:¬(h:Int)=0:=by omega
   rw [decide_eq_false c,Bool.false_and]
   go_enter Tryz.func87,Tryz.ntmps87
   go_wp2_with fail
   go_ret
   exact⟨rfl,by go_grown⟩
theorem top_bits {a b:Nat} (hb:b≠0) (h:bitsN b≤bitsN a):a<b*2^(bitsN a-bitsN b+1):=by
 obtain⟨t,e,h1,h2⟩:=bitsN_low hb
 have ha:a≠0:=by rintro rfl;have:bitsN 0=0:=rfl;omega
 obtain⟨s,f, -,h4⟩:=bitsN_low ha
 rw [e,f] at h ⊢
 have:2^t*2^(s+1-(t+1)+1)≤b*2^(s+1-(t+1)+1):=Nat.mul_le_mul_right _ h1
 rw [←Nat.pow_add,show t+(s+1-(t+1)+1)=s+1 by omega] at this
 omega
theorem less_bits {a b:Nat} (h:bitsN a<bitsN b):a<b:=by
 have hb:b≠0:=by rintro rfl;have:bitsN 0=0:=rfl;omega
 obtain⟨t,e,h1,h2⟩:=bitsN_low hb
 by_cases ha:a=0
 · omega
 obtain⟨s,f, -,h4⟩:=bitsN_low ha
 have:2^(s+1)≤2^t:=Nat.pow_le_pow_right (by omega) (by omega)
 omega
theorem cmpN_le {m n:Nat} (h:m≤n):cmpN m n≤0:=by unfold cmpN;split <;> (try split) <;> omega
theorem cmpN_nle {m n:Nat} (h:¬m≤n):¬cmpN m n≤0:=by unfold cmpN;split <;> (try split) <;> omega
theorem div_start {a b:Nat} (hb:b≠0):a<b*2^((bitsN a:Int)-(bitsN b:Int)+1).toNat:=by
 by_cases c:bitsN b≤bitsN a
 · rw [show ((bitsN a:Int)-(bitsN b:Int)+1).toNat=bitsN a-bitsN b+1 by omega]
   exact top_bits hb c
 · rw [show ((bitsN a:Int)-(bitsN b:Int)+1).toNat=0 by omega,Nat.pow_zero,Nat.mul_one]
   exact less_bits (by omega)
theorem bits_room {b t K:Nat} (hb:b<2^K):b*2^t<2^(K+t):=by
 rw [Nat.pow_add]
 exact Nat.mul_lt_mul_of_pos_right hb (Nat.two_pow_pos t)
theorem pow_up {r K t:Nat} (h:r<2^K):r<2^(K+t):=Nat.lt_of_lt_of_le h (Nat.pow_le_pow_right (by omega) (by omega))
theorem rest_step {b r k R:Nat} (h:r%b=R%b) (hl:r<b*2^(k+1)):(b*2^k≤r→(r-b*2^k)%b=R%b∧r-b*2^k<b*2^k)∧(¬b*2^k≤r→r<b*2^k):=by
 have e2:b*2^(k+1)=b*2^k+b*2^k:=by rw [Nat.pow_succ,←Nat.mul_assoc];omega
 refine⟨fun c=>⟨?_,by omega⟩,fun c=>by omega⟩
 rw [Nat.sub_mul_mod c,h]
set_option maxHeartbeats 4000000 in
theorem rest_w {ao bo:Option Addr} {l ca k cb:Nat} (a b K:Nat) (hK:K≤100000) (hb0:b≠0) (ha:a<2^K) (hb:b<2^K) (w:World) (A:BigIs w (.slice ao l ca) a) (B:BigIs w (.slice bo k cb) b) :
   Calls Tryz.prog 69 #[.slice ao l ca,.slice bo k cb] w fun r w'=>(∃v,r=.returned v∧BigIs w' v (a%b))∧Below w.heap.size w w':=by
 have c1:=bits_w (.slice ao l ca) a K (by omega) ha w A
 have c2:=bits_w (.slice bo k cb) b K (by omega) hb w B
 have n1:=bitsN_le ha
 have n2:=bitsN_le hb
 have HS:Hid (a<b*2^((bitsN a:Int)-(bitsN b:Int)+1).toNat):=div_start hb0
 generalize bitsN a=Na at *
 generalize bitsN b=Nb at *
 have i1:(Na:Int)≤100000:=by omega
 have i2:(Nb:Int)≤100000:=by omega
 go_enter Tryz.func69,Tryz.ntmps69
 go_upto_region 2 with (first
   | (go_at_call_of 70 (Value.slice ao l ca);(with_reducible refine c1.mono ?_);rintro _ _ ⟨rfl,rfl⟩)
   | (go_at_call_of 70 (Value.slice bo k cb);(with_reducible refine c2.mono ?_);rintro _ _ ⟨rfl,rfl⟩))
 clear c1 c2 n1 n2
 have HK:Hid (a<2^K∧b<2^K):=⟨ha,hb⟩
 clear ha hb
 go_loopg [0,5] (200001:Nat) (fun G s0 s5 wx=>∃(z:Int) (r:Nat),s5=.int .i64 z∧-100000≤z∧z≤100000∧z+100001≤(G:Int)∧Below w.heap.size w wx∧BigIs wx s0 r∧Hid (r%b=a%b∧r≤a∧r<b*2^(z+1).toNat))
 case atStart=>exact⟨(Na:Int)-Nb,a,rfl,by omega,by omega,by omega,Below.refl _ _,A,rfl,Nat.le_refl _,HS.out⟩
 case round =>
   clear HS A
   obtain⟨z,r,rfl,z1,z2,zG,HB,R,H⟩:=hrel
   obtain⟨o0,k0,c0,rfl, -⟩:=R.shape
   by_cases cz:z<0
   · have cz':¬(0:Int)≤z:=by omega
     have e:r=a%b:=by
       obtain⟨h1, -,h3⟩:=H.out
       rw [show (z+1).toNat=0 by omega,Nat.pow_zero,Nat.mul_one] at h3
       rw [←h1,Nat.mod_eq_of_lt h3]
     rw [e] at R
     clear H HK e
     go_wp2_with fail
     go_ret
     exact⟨⟨_,rfl,R⟩,HB⟩
   · have cz':(0:Int)≤z:=by omega
     obtain⟨t,rfl⟩:∃t:Nat,z=(t:Int):=⟨z.toNat,by omega⟩
     have h3:=H.out
     rw [show ((t:Int)+1).toNat=t+1 by omega] at h3
     have st:=rest_step h3.1 h3.2.2
     have hr:r≤a:=h3.2.1
     have BB:=B.keep HB
     have cl:=fun W (q:BigIs W (.slice bo k cb) b)=>left_w (.slice bo k cb) b t (t/32) (t%32) K (by omega) HK.out.2 (by omega) (by omega) (by omega) W q
     have q1:b*2^t<2^(K+t):=bits_room HK.out.2
     have q2:r<2^(K+t):=pow_up (Nat.lt_of_le_of_lt hr HK.out.1)
     have cc:=fun W v1 v2 (p1:BigIs W v1 (b*2^t)) (p2:BigIs W v2 r)=>cmp_w v1 v2 (b*2^t) r (K+t) (by omega) q1 q2 W p1 p2
     have cs:=fun W v1 v2 (h:b*2^t≤r) (p1:BigIs W v1 r) (p2:BigIs W v2 (b*2^t))=>less_w v1 v2 r (b*2^t) (K+t) (by omega) q2 h W p1 p2
     have ST:Hid ((b*2^t≤r→(r-b*2^t)%b=a%b∧r-b*2^t<b*2^t)∧(¬b*2^t≤r→r<b*2^t)):=st
     have H1:Hid (r%b=a%b∧r≤a):=⟨h3.1,hr⟩
     clear st h3 hr q1 q2 H HK
     have H2:Hid (b*2^((t:Int)-1+1).toNat=b*2^t):=by show _=_;rw [show ((t:Int)-1+1).toNat=t by omega]
     generalize b*2^t=d at *
     go_upto_region 4 with (go_at_call 71;(with_reducible refine (cl _ BB).mono ?_);rintro _ W1 ⟨⟨v1,rfl,D⟩,hb1⟩;obtain⟨o1,k1,c1,rfl, -⟩:=D.shape;replace R:=R.keep hb1;replace HB:=later HB hb1;clear hb1 BB)
     by_cases cd:d≤r
     · have cm:=cmpN_le cd
       have e1:=(ST.out.1 cd).1
       have e2:=(ST.out.1 cd).2
       have H4:Hid ((r-d)%b=a%b∧r-d≤a∧r-d<b*2^((t:Int)-1+1).toNat):=⟨e1,by have:=H1.out.2;omega,by rw [H2.out];exact e2⟩
       clear e1 e2 ST H1 H2
       generalize cmpN d r=y at *
       go_wp2_with (first
         | (go_at_call 72;(with_reducible refine (cc _ _ _ D R).mono ?_);rintro _ W2 ⟨rfl,hb1⟩;replace R:=R.keep hb1;replace D:=D.keep hb1;replace HB:=later HB hb1;clear hb1)
         | (go_at_call 73;(with_reducible refine (cs _ _ _ cd R D).mono ?_);rintro _ W3 ⟨⟨v3,rfl,E⟩,hb1⟩;replace HB:=later HB hb1;clear hb1))
       (go_roundg (t+100000)
        case measure=>omega
        case rel=>exact⟨(t:Int)-1,r-d,by go_num,by omega,by omega,by omega,HB,E,H4.out⟩)
     · have cm:=cmpN_nle cd
       have e2:=ST.out.2 cd
       have H4:Hid (r%b=a%b∧r≤a∧r<b*2^((t:Int)-1+1).toNat):=⟨H1.out.1,H1.out.2,by rw [H2.out];exact e2⟩
       clear e2 ST H1 H2
       generalize cmpN d r=y at *
       go_wp2_with (first
         | (go_at_call 72;(with_reducible refine (cc _ _ _ D R).mono ?_);rintro _ W2 ⟨rfl,hb1⟩;replace R:=R.keep hb1;replace HB:=later HB hb1;clear hb1))
       (go_roundg (t+100000)
        case measure=>omega
        case rel=>exact⟨(t:Int)-1,r,by go_num,by omega,by omega,by omega,HB,R,H4.out⟩)
end Go.Proofs.YtpiffjpokmhmpaaGreatDoor
