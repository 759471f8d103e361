/- The program's whole numbers of one and two words (rat): amounts, divisors, halves, products. The program's whole numbers of two words (rat): products, sums, negatives, signs. The program's whole numbers of two words (rat): sums, negatives, products with a sign. The program's whole numbers of two words (rat): division bit by bit. Plain facts on the digits of whole numbers, 32 bits each, the lowest first. -/
import Derived.Test.YtbejmklkicoibaaKe01
import Derived.BigQuiet
import Derived.Deep.LoopGhost
import Derived.Deep.CutRange
import Derived.Test.YtbejmklkicoibaaKe02
namespace Go.Proofs.Ytbejmklkicoibaa
open Go.ChangeShapes Go.WideShapes Go.ChangeAt Go.RowKit
theorem ramount_w (n:Int) (h1:-9223372036854775808<=n) (h2:n<=9223372036854775807) (w:World) :
  Calls Try.prog 54 #[.int .i64 n] w fun r w'=>r=.returned (.int .u64 ((n.natAbs:Nat):Int))/\w=w':=by
 have e1:n<0->IntKind.u64.wrap (-IntKind.u64.wrap n)=(n.natAbs:Int):=fun c=>by rw [IntKind.wrap_u64,IntKind.wrap_u64];omega
 have e2:¬n<0->IntKind.u64.wrap n=(n.natAbs:Int):=fun c=>by rw [IntKind.wrap_u64];omega
 generalize n.natAbs=m at *
 by_cases c:n<0
 ·have e:=e1 c
  clear e1 e2
  go_enter Try.func54,Try.ntmps54
  go_wp2_with fail
  go_ret
  exact⟨rfl,rfl⟩
 ·have e:=e2 c
  clear e1 e2
  go_enter Try.func54,Try.ntmps54
  go_wp2_with fail
  go_ret
  exact⟨rfl,rfl⟩
theorem rem_u64 (m n:Nat):Int.tmod (m:Int) (n:Int)=((m%n:Nat):Int):=rfl
theorem quo_u64 (m n:Nat):Int.tdiv (m:Int) (n:Int)=((m/n:Nat):Int):=rfl
set_option maxHeartbeats 1000000 in
theorem rdivisor_w (a b:Nat) (w:World) :
   Calls Try.prog 53 #[.int .u64 (a:Int),.int .u64 (b:Int)] w fun r w'=>r=.returned (.int .u64 ((Nat.gcd a b:Nat):Int))/\Below w.heap.size w w':=by
 go_enter Try.func53,Try.ntmps53
 go_upto_region 1 with fail
 go_loopg [0,1] b (fun G s0 s1 wx=>∃(m n:Nat),n<=G/\Below w.heap.size w wx/\s0=.int .u64 (m:Int)/\s1=.int .u64 (n:Int)/\Hid (Nat.gcd m n=Nat.gcd a b))
 case atStart=>exact⟨a,b,Nat.le_refl _,Below.refl _ _,rfl,rfl,rfl⟩
 case round =>
   obtain⟨m,n,hG,HB,rfl,rfl,H⟩:=hrel
   by_cases cn:n=0
   · subst cn
     have e:Hid (m=Nat.gcd a b):=by
       show m=Nat.gcd a b
       rw [<-H.out,Nat.gcd_zero_right]
     clear H
     go_wp2_with fail
     go_ret
     exact⟨congrArg (fun x:Nat=>Ending.returned (Value.int .u64 (x:Int))) e.out,HB⟩
   · have z:((n:Int) != 0)=true:=by simpa using cn
     have z1:¬(n:Int)=0:=by omega
     have lt:=Nat.mod_lt m (show 0<n by omega)
     have H2:Hid (Nat.gcd n (m%n)=Nat.gcd a b):=by
       show Nat.gcd n (m%n)=Nat.gcd a b
       rw [<-H.out,Nat.gcd_comm n,<-Nat.gcd_rec,Nat.gcd_comm]
     have er:=rem_u64 m n
     clear H
     generalize m%n=d at *
     go_wp2_with fail
     go_region
     all_goals
       go_wp2_with fail
       (go_roundg d
        case measure=>omega
        case rel=>exact⟨n,d,Nat.le_refl _,HB.drew,rfl,rfl,H2⟩)
theorem rlow_w (a:Nat) (w:World) :
  Calls Try.prog 105 #[.int .u64 (a:Int)] w fun r w'=>r=.returned (.int .u64 ((a%4294967296:Nat):Int))/\w=w':=by
 have e1:IntKind.u32.wrap (a:Int)=((a%4294967296:Nat):Int):=by rw [IntKind.wrap_u32];omega
 have e2:IntKind.u64.wrap ((a%4294967296:Nat):Int)=((a%4294967296:Nat):Int):=by rw [IntKind.wrap_u64];omega
 generalize a%4294967296=m at *
 go_enter Try.func105,Try.ntmps105
 go_wp2_with fail
 go_ret
 exact⟨rfl,rfl⟩
theorem rhalves_w (a:Nat) (w:World) :
  Calls Try.prog 104 #[.int .u64 (a:Int)] w fun r w'=>r=.returned (.tuple #[.int .u64 ((a/4294967296:Nat):Int),.int .u64 ((a%4294967296:Nat):Int)])/\w=w':=by
 have c:=fun W=>rlow_w a W
 have e1:(a:Int)/4294967296=((a/4294967296:Nat):Int):=by omega
 generalize a%4294967296=m at *
 generalize a/4294967296=n at *
 go_enter Try.func104,Try.ntmps104
 go_wp2_with (go_at_call 105;(with_reducible refine (c _).mono ?_);rintro _ _ ⟨rfl,rfl⟩)
 go_ret2
 exact⟨rfl,rfl⟩
def Sg (h l:Nat) (z:Int):Prop:=h<18446744073709551616/\l<18446744073709551616/\((h*18446744073709551616+l:Nat):Int)=z%340282366920938463463374607431768211456
theorem sg_ex (z:Int):∃h l,Sg h l z:=by
 refine⟨(z%340282366920938463463374607431768211456).toNat/18446744073709551616,(z%340282366920938463463374607431768211456).toNat%18446744073709551616, ?_, ?_, ?_⟩ <;> omega
theorem Sg.uniq {h l h' l':Nat} {z:Int} (a:Sg h l z) (b:Sg h' l' z):h=h'/\l=l':=by
 obtain⟨a1,a2,a3⟩:=a
 obtain⟨b1,b2,b3⟩:=b
 omega
theorem Sg.nat {h l:Nat} {z:Int} (a:Sg h l z) (h0:0<=z) (h1:z<340282366920938463463374607431768211456):((h*18446744073709551616+l:Nat):Int)=z:=by
 obtain⟨a1,a2,a3⟩:=a
 omega
set_option maxHeartbeats 1000000 in
theorem wprod_core (a b ah al bh bl low lowh lowl p10 mid midl midh p01 kept kepth k2 p11 t hi lo:Nat)
  (c1:∀W,Calls Try.prog 104 #[.int .u64 (a:Int)] W fun r w'=>r=.returned (.tuple #[.int .u64 (ah:Int),.int .u64 (al:Int)])/\W=w')
  (c2:∀W,Calls Try.prog 104 #[.int .u64 (b:Int)] W fun r w'=>r=.returned (.tuple #[.int .u64 (bh:Int),.int .u64 (bl:Int)])/\W=w')
  (c3:∀W,Calls Try.prog 105 #[.int .u64 (mid:Int)] W fun r w'=>r=.returned (.int .u64 (midl:Int))/\W=w')
  (c4:∀W,Calls Try.prog 105 #[.int .u64 (low:Int)] W fun r w'=>r=.returned (.int .u64 (lowl:Int))/\W=w')
  (e1:IntKind.u64.wrap ((al:Int)*(bl:Int))=(low:Int)) (e2:(low:Int)/4294967296=(lowh:Int)) (e3:IntKind.u64.wrap ((ah:Int)*(bl:Int))=(p10:Int)) (e4:IntKind.u64.wrap ((p10:Int)+(lowh:Int))=(mid:Int))
  (e5:IntKind.u64.wrap ((al:Int)*(bh:Int))=(p01:Int)) (e6:IntKind.u64.wrap ((p01:Int)+(midl:Int))=(kept:Int)) (e7:IntKind.u64.wrap ((ah:Int)*(bh:Int))=(p11:Int)) (e8:(mid:Int)/4294967296=(midh:Int))
  (e9:IntKind.u64.wrap ((p11:Int)+(midh:Int))=(t:Int)) (e10:(kept:Int)/4294967296=(kepth:Int)) (e11:IntKind.u64.wrap ((t:Int)+(kepth:Int))=(hi:Int)) (e12:IntKind.u64.wrap ((kept:Int)*4294967296)=(k2:Int)) (e13:bits .or .u64 (k2:Int) (lowl:Int)=(lo:Int)) (w:World) :
  Calls Try.prog 97 #[.int .u64 (a:Int),.int .u64 (b:Int)] w fun r w'=>r=.returned (.agg #[.int .u64 (hi:Int),.int .u64 (lo:Int)])/\Below w.heap.size w w':=by
 go_enter Try.func97,Try.ntmps97
 go_wp2_with (first
  | (go_at_call_of 104 (Value.int .u64 (a:Int));(with_reducible refine (c1 _).mono ?_);rintro _ _ ⟨rfl,rfl⟩)
  | (go_at_call_of 104 (Value.int .u64 (b:Int));(with_reducible refine (c2 _).mono ?_);rintro _ _ ⟨rfl,rfl⟩)
  | (go_at_call_of 105 (Value.int .u64 (mid:Int));(with_reducible refine (c3 _).mono ?_);rintro _ _ ⟨rfl,rfl⟩)
  | (go_at_call_of 105 (Value.int .u64 (low:Int));(with_reducible refine (c4 _).mono ?_);rintro _ _ ⟨rfl,rfl⟩))
 refine bodyPost_ret (v:=.agg #[.int .u64 (hi:Int),.int .u64 (lo:Int)]) (by simp [results,Try.results97,go_sem, *]) rfl ⟨rfl, ?_⟩
 go_grown
theorem or32 (k m:Nat) (hm:m<4294967296) (hk:k*4294967296<18446744073709551616):bits .or .u64 ((k*4294967296:Nat):Int) (m:Int)=((k*4294967296+m:Nat):Int):=by
 have e:k*4294967296 ||| m=k*4294967296+m:=by
  have:=Nat.two_pow_add_eq_or_of_lt (i:=32) (b:=m) (by simpa using hm) k
  rw [show 2^32*k=k*4294967296 by omega] at this
  exact this.symm
 rw [u64_or_nat (k*4294967296) m (by omega) (by omega),e]
theorem lower_word {p00 p10 p01 p11 P h l mid kept:Nat} (hP:P=p11*18446744073709551616+(p10+p01)*4294967296+p00) (hm:mid=p10+p00/4294967296) (hk:kept=p01+mid%4294967296) (hn:h*18446744073709551616+l=P) (hl:l<18446744073709551616):l=kept%4294967296*4294967296+p00%4294967296:=by
 have e1:p00=p00/4294967296*4294967296+p00%4294967296:=by omega
 have e2:mid=mid/4294967296*4294967296+mid%4294967296:=by omega
 have e3:kept=kept/4294967296*4294967296+kept%4294967296:=by omega
 have b1:p00%4294967296<4294967296:=Nat.mod_lt _ (by omega)
 have b3:kept%4294967296<4294967296:=Nat.mod_lt _ (by omega)
 generalize p00/4294967296=a at *
 generalize p00%4294967296=b at *
 generalize mid/4294967296=c at *
 generalize mid%4294967296=d at *
 generalize kept/4294967296=e at *
 generalize kept%4294967296=f at *
 subst e1
 have:h*18446744073709551616+l=(p11+c+e)*18446744073709551616+(f*4294967296+b):=by omega
 have u1:=congrArg (·%18446744073709551616) this
 rw [Nat.mul_comm h,Nat.mul_comm (p11+c+e),Nat.mul_add_mod,Nat.mul_add_mod,Nat.mod_eq_of_lt hl,Nat.mod_eq_of_lt (by omega)] at u1
 exact u1
theorem wprod_w (a b h l:Nat) (ha:a<18446744073709551616) (hb:b<18446744073709551616) (S:Sg h l ((a:Int)*(b:Int))) (w:World) :
  Calls Try.prog 97 #[.int .u64 (a:Int),.int .u64 (b:Int)] w fun r w'=>r=.returned (.agg #[.int .u64 (h:Int),.int .u64 (l:Int)])/\Below w.heap.size w w':=by
 have le:∀a b:Nat,a<4294967296->b<4294967296->a*b<=18446744065119617025:=fun a b h k=>Nat.mul_le_mul (show a<=4294967295 by omega) (show b<=4294967295 by omega)
 have b00:=le (a%4294967296) (b%4294967296) (by omega) (by omega)
 have b10:=le (a/4294967296) (b%4294967296) (by omega) (by omega)
 have b01:=le (a%4294967296) (b/4294967296) (by omega) (by omega)
 have b11:=le (a/4294967296) (b/4294967296) (by omega) (by omega)
 have hP:a*b=a/4294967296*(b/4294967296)*18446744073709551616+(a/4294967296*(b%4294967296)+a%4294967296*(b/4294967296))*4294967296+a%4294967296*(b%4294967296):=by
  have ex:a=a/4294967296*4294967296+a%4294967296:=by omega
  have ey:b=b/4294967296*4294967296+b%4294967296:=by omega
  generalize a/4294967296=u at *
  generalize a%4294967296=v at *
  generalize b/4294967296=r at *
  generalize b%4294967296=q at *
  subst ex ey
  grind
 have hlt:a*b<18446744073709551616*18446744073709551616:=Nat.mul_lt_mul'' ha hb
 have kxy:(a:Int)*(b:Int)=((a*b:Nat):Int):=(Int.natCast_mul _ _).symm
 have hn:=S.nat (by rw [kxy];omega) (by rw [kxy];generalize a*b=z at *;omega)
 obtain⟨s1,s2, -⟩:=S
 rw [kxy] at hn
 have k00:(((a%4294967296:Nat):Int))*((b%4294967296:Nat):Int)=((a%4294967296*(b%4294967296):Nat):Int):=(Int.natCast_mul _ _).symm
 have k10:(((a/4294967296:Nat):Int))*((b%4294967296:Nat):Int)=((a/4294967296*(b%4294967296):Nat):Int):=(Int.natCast_mul _ _).symm
 have k01:(((a%4294967296:Nat):Int))*((b/4294967296:Nat):Int)=((a%4294967296*(b/4294967296):Nat):Int):=(Int.natCast_mul _ _).symm
 have k11:(((a/4294967296:Nat):Int))*((b/4294967296:Nat):Int)=((a/4294967296*(b/4294967296):Nat):Int):=(Int.natCast_mul _ _).symm
 have c1:=fun W=>rhalves_w a W
 have c2:=fun W=>rhalves_w b W
 generalize a%4294967296*(b%4294967296)=p00 at *
 generalize a/4294967296*(b%4294967296)=p10 at *
 generalize a%4294967296*(b/4294967296)=p01 at *
 generalize a/4294967296*(b/4294967296)=p11 at *
 generalize a*b=P at *
 obtain⟨mid,hm⟩:∃m,m=p10+p00/4294967296:=⟨_,rfl⟩
 obtain⟨kept,hk⟩:∃m,m=p01+mid%4294967296:=⟨_,rfl⟩
 have ho:=or32 (kept%4294967296) (p00%4294967296) (by omega) (by omega)
 refine wprod_core a b _ _ _ _ p00 (p00/4294967296) (p00%4294967296) p10 mid (mid%4294967296) (mid/4294967296) p01 kept (kept/4294967296) (kept%4294967296*4294967296) p11 (p11+mid/4294967296) h l
  c1 c2 (fun W=>rlow_w mid W) (fun W=>rlow_w p00 W) ?_ (by omega) ?_ ?_ ?_ ?_ ?_ (by omega) ?_ (by omega) ?_ ?_ ?_ w
 ·rw [k00,IntKind.wrap_u64];omega
 ·rw [k10,IntKind.wrap_u64];omega
 ·rw [IntKind.wrap_u64];omega
 ·rw [k01,IntKind.wrap_u64];omega
 ·rw [IntKind.wrap_u64];omega
 ·rw [k11,IntKind.wrap_u64];omega
 ·rw [IntKind.wrap_u64];omega
 ·rw [IntKind.wrap_u64];omega
 ·rw [IntKind.wrap_u64];omega
 ·rw [ho];exact congrArg Int.ofNat (lower_word hP hm hk (by exact_mod_cast hn) s2).symm
theorem wroom_w (h l:Nat) (w:World) :
  Calls Try.prog 103 #[.agg #[.int .u64 (h:Int),.int .u64 (l:Int)]] w fun r w'=>r=.returned (.bool (decide (h=0)&&decide (l<=9223372036854775807)))/\Below w.heap.size w w':=by
 by_cases c:h=0
 ·subst c
  have e:(decide ((l:Int)<=9223372036854775807))=decide (l<=9223372036854775807):=by
   by_cases q:l<=9223372036854775807
   ·rw [decide_eq_true q,decide_eq_true (by omega)]
   ·rw [decide_eq_false q,decide_eq_false (by omega)]
  have z:decide ((0:Nat)=0)=true:=rfl
  rw [z,Bool.true_and]
  clear z
  generalize decide (l<=9223372036854775807)=b at *
  go_enter Try.func103,Try.ntmps103
  go_wp2_with fail
  go_ret
  exact⟨rfl,by go_grown⟩
 ·have e:((h:Int)==0)=false:=by simpa using c
  have e2:¬(h:Int)=0:=by omega
  rw [decide_eq_false c,Bool.false_and]
  go_enter Try.func103,Try.ntmps103
  go_wp2_with fail
  go_ret
  exact⟨rfl,by go_grown⟩
theorem wbelow_w (h l:Nat) (w:World) :
  Calls Try.prog 93 #[.agg #[.int .u64 (h:Int),.int .u64 (l:Int)]] w fun r w'=>r=.returned (.bool (decide (9223372036854775808<=h)))/\Below w.heap.size w w':=by
 have e:((h:Int)/9223372036854775808 != 0)=decide (9223372036854775808<=h):=by
  by_cases q:9223372036854775808<=h
  ·rw [decide_eq_true q]
   have:(h:Int)/9223372036854775808≠0:=by omega
   simpa using this
  ·rw [decide_eq_false q]
   have:(h:Int)/9223372036854775808=0:=by omega
   rw [this];rfl
 generalize decide (9223372036854775808<=h)=b at *
 go_enter Try.func93,Try.ntmps93
 go_wp2_with fail
 go_ret
 exact⟨rfl,by go_grown⟩
theorem wplus_core (h1 l1 h2 l2 s h l:Nat) (e1:IntKind.u64.wrap ((h1:Int)+(h2:Int))=(s:Int)) (e2:IntKind.u64.wrap ((l1:Int)+(l2:Int))=(l:Int))
  (e3:((l:Int)<(l1:Int)/\IntKind.u64.wrap ((s:Int)+1)=(h:Int))\/(¬(l:Int)<(l1:Int)/\s=h)) (w:World) :
  Calls Try.prog 92 #[.agg #[.int .u64 (h1:Int),.int .u64 (l1:Int)],.agg #[.int .u64 (h2:Int),.int .u64 (l2:Int)]] w fun r w'=>r=.returned (.agg #[.int .u64 (h:Int),.int .u64 (l:Int)])/\Below w.heap.size w w':=by
 rcases e3 with ⟨c,e3⟩ | ⟨c,e3⟩
 ·go_enter Try.func92,Try.ntmps92
  go_wp2_with fail
  refine bodyPost_ret (v:=.agg #[.int .u64 (h:Int),.int .u64 (l:Int)]) (by simp [results,Try.results92,go_sem, *]) rfl ⟨rfl, ?_⟩
  go_grown
 ·subst e3
  go_enter Try.func92,Try.ntmps92
  go_wp2_with fail
  refine bodyPost_ret (v:=.agg #[.int .u64 (s:Int),.int .u64 (l:Int)]) (by simp [results,Try.results92,go_sem, *]) rfl ⟨rfl, ?_⟩
  go_grown
theorem wplus_w (h1 l1 h2 l2 h l:Nat) {x y:Int} (S1:Sg h1 l1 x) (S2:Sg h2 l2 y) (S:Sg h l (x+y)) (w:World) :
  Calls Try.prog 92 #[.agg #[.int .u64 (h1:Int),.int .u64 (l1:Int)],.agg #[.int .u64 (h2:Int),.int .u64 (l2:Int)]] w fun r w'=>r=.returned (.agg #[.int .u64 (h:Int),.int .u64 (l:Int)])/\Below w.heap.size w w':=by
 obtain⟨a1,a2,a3⟩:=S1
 obtain⟨b1,b2,b3⟩:=S2
 obtain⟨c1,c2,c3⟩:=S
 have key:h*18446744073709551616+l=(h1*18446744073709551616+l1+(h2*18446744073709551616+l2))%340282366920938463463374607431768211456:=by omega
 clear a3 b3 c3
 by_cases k:l1+l2<18446744073709551616
 ·have e:l=l1+l2:=by omega
  have e':h=(h1+h2)%18446744073709551616:=by omega
  refine wplus_core h1 l1 h2 l2 ((h1+h2)%18446744073709551616) h l ?_ ?_ (Or.inr ⟨by omega,e'.symm⟩) w
  ·rw [IntKind.wrap_u64];omega
  ·rw [IntKind.wrap_u64];omega
 ·have e:l=l1+l2-18446744073709551616:=by omega
  have e':h=(h1+h2+1)%18446744073709551616:=by omega
  refine wplus_core h1 l1 h2 l2 ((h1+h2)%18446744073709551616) h l ?_ ?_ (Or.inl ⟨by omega, ?_⟩) w
  ·rw [IntKind.wrap_u64];omega
  ·rw [IntKind.wrap_u64];omega
  ·rw [IntKind.wrap_u64];omega
theorem xor_max (a:Nat) (ha:a<18446744073709551616):bits .xor .u64 IntKind.u64.max (a:Int)=((18446744073709551615-a:Nat):Int):=by
 have h1:(BitVec.ofInt 64 (a:Int)).toNat=a:=by
  rw [BitVec.ofInt_natCast,BitVec.toNat_ofNat];exact Nat.mod_eq_of_lt (by omega)
 have h2:BitVec.ofInt 64 IntKind.u64.max=BitVec.allOnes 64:=by decide
 show IntKind.u64.wrap ((BitVec.ofInt 64 IntKind.u64.max ^^^ BitVec.ofInt 64 (a:Int)).toNat:Int)=_
 rw [h2,BitVec.allOnes_xor,BitVec.toNat_not,h1,IntKind.wrap_u64]
 omega
theorem neg_mod (x M:Int) (hM:0<M):(-x-1)%M=M-1-x%M:=by
 have h1:=Int.emod_nonneg x (show M≠0 by omega)
 have h2:=Int.emod_lt_of_pos x hM
 have e:-x-1=(M-1-x%M)+M*(-(x/M)-1):=by
  have:=Int.mul_ediv_add_emod x M
  grind
 rw [e,Int.add_mul_emod_self_left,Int.emod_eq_of_lt (by omega) (by omega)]
theorem wneg_core (h l h' l' H L:Nat) (e1:bits .xor .u64 IntKind.u64.max (h:Int)=(h':Int)) (e2:bits .xor .u64 IntKind.u64.max (l:Int)=(l':Int))
  (c:∀W,Calls Try.prog 92 #[.agg #[.int .u64 (h':Int),.int .u64 (l':Int)],.agg #[.int .u64 0,.int .u64 1]] W fun r w'=>r=.returned (.agg #[.int .u64 (H:Int),.int .u64 (L:Int)])/\Below W.heap.size W w') (w:World) :
  Calls Try.prog 94 #[.agg #[.int .u64 (h:Int),.int .u64 (l:Int)]] w fun r w'=>r=.returned (.agg #[.int .u64 (H:Int),.int .u64 (L:Int)])/\Below w.heap.size w w':=by
 go_enter Try.func94,Try.ntmps94
 go_wp2_with (go_at_call 92;(with_reducible refine (c _).mono ?_);rintro _ W1 ⟨rfl,hb1⟩;obtain⟨x0,x1,x2,x3,x4⟩:=Has2.keep (b:=w.heap.size+1) (x:=.int .u64 0) (y:=.int .u64 0) ⟨by go_simp,by go_simp,by go_simp,by go_simp,by go_size⟩ hb1;have HB:Below w.heap.size w W1:=later (by go_grown) hb1;clear hb1)
 refine bodyPost_ret (v:=.agg #[.int .u64 (H:Int),.int .u64 (L:Int)]) (by simp [results,Try.results94,go_sem, *]) rfl ⟨rfl, ?_⟩
 repeat' (first | (with_reducible exact HB) | (with_reducible refine Below.setCell ?_ ?_ _) | go_size)
theorem neg_two {h l:Nat} {x:Int} (a1:h<18446744073709551616) (a2:l<18446744073709551616) (a3:((h*18446744073709551616+l:Nat):Int)=x%340282366920938463463374607431768211456) :
  (((18446744073709551615-h)*18446744073709551616+(18446744073709551615-l):Nat):Int)=(-x-1)%340282366920938463463374607431768211456:=by
 rw [neg_mod x _ (by decide),<-a3]
 obtain⟨u,hu⟩:∃u,u+h=18446744073709551615:=⟨18446744073709551615-h,by omega⟩
 obtain⟨v,hv⟩:∃v,v+l=18446744073709551615:=⟨18446744073709551615-l,by omega⟩
 rw [show 18446744073709551615-h=u by omega,show 18446744073709551615-l=v by omega]
 have hM:(340282366920938463463374607431768211456:Int)=18446744073709551616*18446744073709551616:=by decide
 have hu':(u:Int)=18446744073709551616-1-(h:Int):=by omega
 have hv':(v:Int)=18446744073709551616-1-(l:Int):=by omega
 rw [hM,Int.natCast_add,Int.natCast_add,Int.natCast_mul,Int.natCast_mul,hu',hv']
 show (18446744073709551616-1-(h:Int))*18446744073709551616+(18446744073709551616-1-(l:Int))=18446744073709551616*18446744073709551616-1-((h:Int)*18446744073709551616+(l:Int))
 clear hM hu' hv' hu hv a1 a2 a3
 generalize (18446744073709551616:Int)=B
 grind
theorem wneg_w (h l H L:Nat) {x:Int} (S1:Sg h l x) (S:Sg H L (-x)) (w:World) :
  Calls Try.prog 94 #[.agg #[.int .u64 (h:Int),.int .u64 (l:Int)]] w fun r w'=>r=.returned (.agg #[.int .u64 (H:Int),.int .u64 (L:Int)])/\Below w.heap.size w w':=by
 obtain⟨a1,a2,a3⟩:=S1
 refine wneg_core h l (18446744073709551615-h) (18446744073709551615-l) H L (xor_max h a1) (xor_max l a2) (fun W=>wplus_w _ _ 0 1 H L (x:=-x-1) (y:=1) ⟨by omega,by omega, ?_⟩ ⟨by decide,by decide,by decide⟩ (by rw [show -x-1+1=-x by omega];exact S) W) w
 exact neg_two a1 a2 a3
theorem wsgn_core (n:Int) (a d h l H L:Nat) (ca:∀W,Calls Try.prog 54 #[.int .i64 n] W fun r w'=>r=.returned (.int .u64 (a:Int))/\W=w')
  (cp:∀W,Calls Try.prog 97 #[.int .u64 (a:Int),.int .u64 (d:Int)] W fun r w'=>r=.returned (.agg #[.int .u64 (h:Int),.int .u64 (l:Int)])/\Below W.heap.size W w')
  (cn:(n<0/\∀W,Calls Try.prog 94 #[.agg #[.int .u64 (h:Int),.int .u64 (l:Int)]] W fun r w'=>r=.returned (.agg #[.int .u64 (H:Int),.int .u64 (L:Int)])/\Below W.heap.size W w')\/(¬n<0/\h=H/\l=L)) (w:World) :
  Calls Try.prog 91 #[.int .i64 n,.int .u64 (d:Int)] w fun r w'=>r=.returned (.agg #[.int .u64 (H:Int),.int .u64 (L:Int)])/\Below w.heap.size w w':=by
 rcases cn with ⟨c,cn⟩ | ⟨c,rfl,rfl⟩
 ·go_enter Try.func91,Try.ntmps91
  go_wp2_with (first
   | (go_at_call 54;(with_reducible refine (ca _).mono ?_);rintro _ _ ⟨rfl,rfl⟩)
   | (go_at_call 97;(with_reducible refine (cp _).mono ?_);rintro _ W1 ⟨rfl,hb1⟩;obtain⟨x0,x1,x2,x3,x4⟩:=Has2.keep (b:=w.heap.size) (x:=.int .u64 0) (y:=.int .u64 0) ⟨by go_simp,by go_simp,by go_simp,by go_simp,by go_size⟩ hb1;have HB:Below w.heap.size w W1:=later (by go_grown) hb1;clear hb1)
   | (go_at_call 94;(with_reducible refine (cn _).mono ?_);rintro _ W2 ⟨rfl,hb2⟩;obtain⟨y0,y1,y2,y3,y4⟩:=Has2.keep (b:=w.heap.size) (x:=.int .u64 0) (y:=.int .u64 0) ⟨by go_simp,by go_simp,by go_simp,by go_simp,by go_size⟩ hb2;obtain⟨z0,z1,z2,z3,z4⟩:=Has2.keep (b:=W1.heap.size) (x:=.int .u64 (h:Int)) (y:=.int .u64 (l:Int)) ⟨by go_simp,by go_simp,by go_simp,by go_simp,by go_size⟩ hb2;have HC:Below w.heap.size w W2:=later (later HB (by go_grown)) hb2;clear hb2))
  refine bodyPost_ret (v:=.agg #[.int .u64 (H:Int),.int .u64 (L:Int)]) (by simp [results,Try.results91,go_sem, *]) rfl ⟨rfl, ?_⟩
  have z5:w.heap.size<=W1.heap.size:=by omega
  repeat' (first | (with_reducible exact HC) | (with_reducible refine Below.setCell ?_ ?_ _) | go_size)
 ·go_enter Try.func91,Try.ntmps91
  go_wp2_with (first
   | (go_at_call 54;(with_reducible refine (ca _).mono ?_);rintro _ _ ⟨rfl,rfl⟩)
   | (go_at_call 97;(with_reducible refine (cp _).mono ?_);rintro _ W1 ⟨rfl,hb1⟩;obtain⟨x0,x1,x2,x3,x4⟩:=Has2.keep (b:=w.heap.size) (x:=.int .u64 0) (y:=.int .u64 0) ⟨by go_simp,by go_simp,by go_simp,by go_simp,by go_size⟩ hb1;have HB:Below w.heap.size w W1:=later (by go_grown) hb1;clear hb1))
  refine bodyPost_ret (v:=.agg #[.int .u64 (h:Int),.int .u64 (l:Int)]) (by simp [results,Try.results91,go_sem, *]) rfl ⟨rfl, ?_⟩
  refine later (W0:=(W1.setCell ⟨w.heap.size,0,none⟩ (.int .u64 (h:Int))).setCell ⟨w.heap.size,1,none⟩ (.int .u64 (l:Int))) ?_ (by go_grown)
  repeat' (first | (with_reducible exact HB) | (with_reducible refine Below.setCell ?_ ?_ _) | go_size)
theorem wsgn_w (n:Int) (d H L:Nat) (h1:-9223372036854775808<=n) (h2:n<=9223372036854775807) (hd:d<18446744073709551616) (S:Sg H L (n*(d:Int))) (w:World) :
  Calls Try.prog 91 #[.int .i64 n,.int .u64 (d:Int)] w fun r w'=>r=.returned (.agg #[.int .u64 (H:Int),.int .u64 (L:Int)])/\Below w.heap.size w w':=by
 by_cases c:n<0
 ·obtain⟨h,l,S1⟩:=sg_ex (((n.natAbs:Nat):Int)*(d:Int))
  refine wsgn_core n n.natAbs d h l H L (fun W=>ramount_w n h1 h2 W) (fun W=>wprod_w n.natAbs d h l (by omega) hd S1 W) (Or.inl ⟨c,fun W=>wneg_w h l H L S1 ?_ W⟩) w
  rw [<-Int.neg_mul,show -((n.natAbs:Nat):Int)=n by omega]
  exact S
 ·refine wsgn_core n n.natAbs d H L H L (fun W=>ramount_w n h1 h2 W) (fun W=>wprod_w n.natAbs d H L (by omega) hd ?_ W) (Or.inr ⟨c,rfl,rfl⟩) w
  rw [show ((n.natAbs:Nat):Int)=n by omega]
  exact S
theorem bit_of {l k:Nat} (hk:k<64):l*2^k%18446744073709551616/9223372036854775808=l/2^(64-(k+1))%2:=by
 have e:(9223372036854775808:Nat)=2^63:=by decide
 have e2:(18446744073709551616:Nat)=2^63*2:=by decide
 rw [e2,e,Nat.mod_mul_right_div_self]
 have:l*2^k/2^63=l/2^(64-(k+1)):=by
  have e3:(2:Nat)^63=2^(64-(k+1))*2^k:=by rw [<-Nat.pow_add];congr 1;omega
  rw [e3,Nat.mul_div_mul_right _ _ (Nat.two_pow_pos k)]
 rw [this]
theorem half_of {l k:Nat} (hk:k<64):l/2^(64-k)=l/2^(64-(k+1))/2:=by
 rw [Nat.div_div_eq_div_mul,<-Nat.pow_succ]
 congr 2
 omega
theorem twice_of {l k:Nat}:l*2^k%18446744073709551616*2%18446744073709551616=l*2^(k+1)%18446744073709551616:=by
 rw [Nat.mod_mul_mod,Nat.pow_succ,Nat.mul_assoc]
def ByI (h l d k r q a:Nat):Prop:=r<d/\a=l*2^k%18446744073709551616/\q<2^k/\h%d*2^k+l/2^(64-k)=q*d+r
theorem byI_start {h l d:Nat} (hd:0<d) (hl:l<18446744073709551616):ByI h l d 0 (h%d) 0 l:=by
 refine⟨Nat.mod_lt _ hd, ?_,by decide, ?_⟩
 ·rw [Nat.pow_zero,Nat.mul_one,Nat.mod_eq_of_lt hl]
 ·rw [Nat.pow_zero,Nat.mul_one,Nat.sub_zero,Nat.div_eq_of_lt (by simpa using hl)]
  omega
theorem byI_step {h l d k r q a:Nat} (hk:k<64) (H:ByI h l d k r q a):(d<=2*r+a/9223372036854775808->ByI h l d (k+1) (2*r+a/9223372036854775808-d) (2*q+1) (a*2%18446744073709551616)) /\
  (¬d<=2*r+a/9223372036854775808->ByI h l d (k+1) (2*r+a/9223372036854775808) (2*q) (a*2%18446744073709551616)):=by
 obtain⟨h1,h2,h3,h4⟩:=H
 have b:=bit_of (l:=l) hk
 rw [<-h2] at b
 have hf:=half_of (l:=l) hk
 have e:h%d*2^(k+1)+l/2^(64-(k+1))=2*(q*d+r)+a/9223372036854775808:=by
  rw [<-h4,hf,b,Nat.pow_succ]
  generalize l/2^(64-(k+1))=x
  rw [<-Nat.mul_assoc]
  generalize h%d*2^k=y
  omega
 have ha:a*2%18446744073709551616=l*2^(k+1)%18446744073709551616:=by rw [h2];exact twice_of
 have bb:a/9223372036854775808<2:=by rw [b];exact Nat.mod_lt _ (by omega)
 generalize a/9223372036854775808=t at *
 refine⟨fun c=>⟨by omega,ha,by rw [Nat.pow_succ];omega, ?_⟩,fun c=>⟨by omega,ha,by rw [Nat.pow_succ];omega, ?_⟩⟩
 ·rw [e,Nat.add_mul,Nat.mul_assoc,Nat.one_mul]
  omega
 ·rw [e,Nat.mul_assoc]
  omega
theorem byI_end {h l d r q a:Nat} (hd:0<d) (H:ByI h l d 64 r q a):q<18446744073709551616/\(h*18446744073709551616+l)/d=h/d*18446744073709551616+q/\(h*18446744073709551616+l)%d=r:=by
 obtain⟨h1,h2,h3,h4⟩:=H
 have e:(2:Nat)^64=18446744073709551616:=by decide
 rw [e] at h3 h4
 rw [Nat.sub_self,Nat.pow_zero,Nat.div_one] at h4
 refine⟨h3, ?_⟩
 have key:h*18446744073709551616+l=r+d*(h/d*18446744073709551616+q):=by
  have:=Nat.div_add_mod h d
  generalize h/d=x at *
  generalize h%d=y at *
  generalize 18446744073709551616=B at *
  subst this
  grind
 rw [key,Nat.add_mul_div_left _ _ hd,Nat.add_mul_mod_self_left,Nat.div_eq_of_lt h1,Nat.mod_eq_of_lt h1]
 simp
theorem or_two (r t:Nat) (hr:2*r+t<18446744073709551616) (ht:t<2):bits .or .u64 ((2*r:Nat):Int) (t:Int)=((2*r+t:Nat):Int):=by
 have e:2*r ||| t=2*r+t:=by
  have:=Nat.two_pow_add_eq_or_of_lt (i:=1) (b:=t) (by simpa using ht) r
  rw [show 2^1*r=2*r by omega] at this
  exact this.symm
 rw [u64_or_nat (2*r) t (by omega) (by omega),e]
theorem Has2.one {w:World} {b:Nat} {x y:Value} (h:Has2 w b x y) (y':Value):Has2 (w.setCell ⟨b,1,none⟩ y') b x y':=by
 obtain⟨h0,h1,f0,f1,hl⟩:=h
 refine⟨by go_simp,by go_simp,by go_simp,by go_simp, ?_⟩
 simp only [World.size_setCell];exact hl
theorem Has2.off1 {w:World} {b c o:Nat} {x y:Value} (h:Has2 w b x y) (hne:b≠c) (v:Value):Has2 (w.setCell ⟨c,o,none⟩ v) b x y:=by
 obtain⟨h0,h1,f0,f1,hl⟩:=h
 have hne':c≠b:=fun e=>hne e.symm
 refine⟨by simp [World.cell?_setCell_far, *],by simp [World.cell?_setCell_far, *],by go_simp,by go_simp, ?_⟩
 simp only [World.size_setCell];exact hl
set_option maxHeartbeats 2000000 in
theorem wby_0 (l d:Nat) (hl:l<18446744073709551616) (hd:0<d) (w:World) :
  Calls Try.prog 95 #[.agg #[.int .u64 ((0:Nat):Int),.int .u64 (l:Int)],.int .u64 (d:Int)] w fun r w'=>r=.returned (.tuple #[.agg #[.int .u64 ((0:Nat):Int),.int .u64 ((l/d:Nat):Int)],.int .u64 ((l%d:Nat):Int)])/\Below w.heap.size w w':=by
 have ed:¬(d:Int)=0:=by omega
 have e1:=quo_u64 l d
 have e2:=rem_u64 l d
 have h0:((0:Nat):Int)=0:=rfl
 rw [h0]
 obtain⟨q,hq⟩:∃x,x=l/d:=⟨_,rfl⟩
 obtain⟨r,hr⟩:∃x,x=l%d:=⟨_,rfl⟩
 rw [<-hq] at e1 ⊢
 rw [<-hr] at e2 ⊢
 have e3:IntKind.u64.wrap (q:Int)=(q:Int):=by rw [IntKind.wrap_u64,hq];have:=Nat.div_le_self l d;omega
 clear hq hr
 go_enter Try.func95,Try.ntmps95
 go_upto_region 2 with fail
 go_region
 go_wp2_with fail
 refine bodyPost_ret (v:=.tuple #[.agg #[.int .u64 0,.int .u64 (q:Int)],.int .u64 (r:Int)]) (by simp [results,Try.results95,go_sem, *]) rfl ⟨?_, ?_⟩
 ·rfl
 ·repeat' (first | go_grown | (with_reducible refine Below.setCell ?_ ?_ _) | go_size)
set_option maxHeartbeats 2000000 in
theorem wby_n (h l d H L:Nat) (h0:¬h=0) (hh:h<18446744073709551616) (hl:l<18446744073709551616) (hd:0<d) (hd2:d<=9223372036854775808) (S:Sg H L (((h*18446744073709551616+l)/d:Nat):Int)) (w:World) :
   Calls Try.prog 95 #[.agg #[.int .u64 (h:Int),.int .u64 (l:Int)],.int .u64 (d:Int)] w fun r w'=>r=.returned (.tuple #[.agg #[.int .u64 (H:Int),.int .u64 (L:Int)],.int .u64 (((h*18446744073709551616+l)%d:Nat):Int)])/\Below w.heap.size w w':=by
 have ed:¬(d:Int)=0:=by omega
 have hz:((h:Int)==0)=false:=by simp;omega
 have e1:=quo_u64 h d
 have e2:=rem_u64 h d
 have H0:Hid (ByI h l d 0 (h%d) 0 l):=byI_start hd hl
 obtain⟨qh,hqh⟩:∃x,x=h/d:=⟨_,rfl⟩
 obtain⟨r0,hr0⟩:∃x,x=h%d:=⟨_,rfl⟩
 have HE:Hid (∀r q a,ByI h l d 64 r q a->H=qh/\L=q/\(h*18446744073709551616+l)%d=r):=by
   intro r q a B
   obtain⟨b1,b2,b3⟩:=byI_end hd B
   have u:=S.uniq (h':=h/d) (l':=q) ⟨Nat.lt_of_le_of_lt (Nat.div_le_self _ _) hh,b1,by
     rw [b2]
     have:h/d<18446744073709551616:=Nat.lt_of_le_of_lt (Nat.div_le_self _ _) hh
     omega⟩
   exact⟨u.1.trans hqh.symm,u.2,b3⟩
 rw [<-hqh] at e1
 rw [<-hr0] at e2 H0
 have e3:IntKind.u64.wrap (qh:Int)=(qh:Int):=by rw [IntKind.wrap_u64,hqh];have:=Nat.div_le_self h d;omega
 clear S hqh hr0 hh hl h0
 go_enter Try.func95,Try.ntmps95
 go_upto_region 3 with fail
 go_region
 go_upto_region 5 with fail
 have X:Has2 ((w.alloc (.cells #[.int .u64 (h:Int),.int .u64 (l:Int)] 133)).alloc (.cells #[.int .u64 (qh:Int),.int .u64 0] 133)).drew w.heap.size (.int .u64 (h:Int)) (.int .u64 (l:Int)):=⟨by go_simp,by go_simp,by go_simp,by go_simp,by go_size⟩
 have Y:Has2 ((w.alloc (.cells #[.int .u64 (h:Int),.int .u64 (l:Int)] 133)).alloc (.cells #[.int .u64 (qh:Int),.int .u64 0] 133)).drew (w.heap.size+1) (.int .u64 (qh:Int)) (.int .u64 0):=⟨by go_simp,by go_simp,by go_simp,by go_simp,by go_size⟩
 have HB:Below w.heap.size w ((w.alloc (.cells #[.int .u64 (h:Int),.int .u64 (l:Int)] 133)).alloc (.cells #[.int .u64 (qh:Int),.int .u64 0] 133)).drew:=by go_grown
 generalize ((w.alloc (.cells #[.int .u64 (h:Int),.int .u64 (l:Int)] 133)).alloc (.cells #[.int .u64 (qh:Int),.int .u64 0] 133)).drew=V1 at *
 clear e1 e2 e3 ed hz
 go_loopg [5,27] (64:Nat) (fun G s5 s27 wx=>∃(k r q a:Nat),s5=.int .u64 (r:Int)/\s27=.int .i64 (k:Int)/\k<=64/\64<=k+G/\Below w.heap.size w wx/\Has2 wx w.heap.size (.int .u64 (h:Int)) (.int .u64 (a:Int))/\Has2 wx (w.heap.size+1) (.int .u64 (qh:Int)) (.int .u64 (q:Int))/\Hid (ByI h l d k r q a))
 case atStart=>exact⟨0,r0,0,l,rfl,rfl,by omega,by omega,HB,X,Y,H0⟩
 case round =>
   clear X Y HB H0
   obtain⟨k,r,q,a,rfl,rfl,hk,hG,HB,X,Y,HI⟩:=hrel
   obtain⟨x0,x1,x2,x3,x4⟩:=id X
   obtain⟨y0,y1,y2,y3,y4⟩:=id Y
   by_cases c:k=64
   · subst c
     obtain⟨v1,v2,v3⟩:=HE.out r q a HI.out
     have FE:Hid (H=qh/\L=q/\(h*18446744073709551616+l)%d=r):=⟨v1,v2,v3⟩
     clear v1 v2 v3 HE HI
     go_wp2_with fail
     refine bodyPost_ret (v:=.tuple #[.agg #[.int .u64 (qh:Int),.int .u64 (q:Int)],.int .u64 (r:Int)]) (by simp [results,Try.results95,go_sem, *]) rfl ⟨?_, ?_⟩
     · rw [FE.out.1,FE.out.2.1,FE.out.2.2]
     · repeat' (first | (with_reducible exact HB) | (with_reducible refine Below.setCell ?_ ?_ _) | go_size)
   · have kl:(k:Int)<64:=by omega
     obtain⟨s1,s2⟩:=byI_step (show k<64 by omega) HI.out
     have hrd:=HI.out.1
     have hq:q<9223372036854775808:=by
       have h1:=HI.out.2.2.1
       have:(2:Nat)^k<=2^63:=Nat.pow_le_pow_right (by omega) (by omega)
       have e:(2:Nat)^63=9223372036854775808:=by decide
       omega
     have ha:a<18446744073709551616:=by
       have h1:=HI.out.2.1
       have:=Nat.mod_lt (l*2^k) (show 0<18446744073709551616 by decide)
       omega
     obtain⟨t,ht⟩:∃t,t=a/9223372036854775808:=⟨_,rfl⟩
     obtain⟨a',ha'⟩:∃t,t=a*2%18446744073709551616:=⟨_,rfl⟩
     have t2:t<2:=by omega
     rw [<-ht,<-ha'] at s1 s2
     have f1:IntKind.u64.wrap ((r:Int)*2)=((2*r:Nat):Int):=by rw [IntKind.wrap_u64];omega
     have f2:(a:Int)/9223372036854775808=(t:Int):=by omega
     have f3:=or_two r t (by omega) t2
     have f4:IntKind.u64.wrap ((a:Int)*2)=(a':Int):=by rw [IntKind.wrap_u64];omega
     have f5:IntKind.u64.wrap ((q:Int)*2)=((2*q:Nat):Int):=by rw [IntKind.wrap_u64];omega
     have f6:=or_two q 1 (by omega) (by omega)
     have f7:((1:Nat):Int)=1:=rfl
     rw [f7] at f6
     have b3:2*r+t<18446744073709551616:=by omega
     clear f7 ht ha' HI HE
     generalize 2*r+t=R at *
     generalize 2*r=r2 at *
     generalize 2*q+1=q3 at *
     generalize 2*q=q2 at *
     by_cases cd:d<=R
     · have HN:Hid (ByI h l d (k+1) (R-d) q3 a'):=s1 cd
       have cd':(d:Int)<=(R:Int):=by omega
       have f8:IntKind.u64.wrap ((R:Int)-(d:Int))=((R-d:Nat):Int):=by rw [IntKind.wrap_u64];omega
       have nn:k+1<=64:=by omega
       clear s1 s2 cd hq ha hrd t2
       generalize R-d=R2 at *
       go_wp2_with fail
       (go_roundg (gk-1)
        case measure=>omega
        case rel=>exact⟨k+1,R2,q3,a',rfl,congrArg (Value.int .i64) (show (k:Int)+1=((k+1:Nat):Int) by omega),nn,by omega,by (repeat' (first | (with_reducible exact HB) | (with_reducible refine Below.setCell ?_ ?_ _) | go_size)),((X.one _).off1 (by omega) _).off1 (by omega) _,((Y.off1 (by omega) _).one _).one _,HN⟩)
     · have HN:Hid (ByI h l d (k+1) R q2 a'):=s2 cd
       have cd':¬(d:Int)<=(R:Int):=by omega
       have nn:k+1<=64:=by omega
       clear s1 s2 cd hq ha hrd t2
       go_wp2_with fail
       (go_roundg (gk-1)
        case measure=>omega
        case rel=>exact⟨k+1,R,q2,a',rfl,congrArg (Value.int .i64) (show (k:Int)+1=((k+1:Nat):Int) by omega),nn,by omega,by (repeat' (first | (with_reducible exact HB) | (with_reducible refine Below.setCell ?_ ?_ _) | go_size)),(X.one _).off1 (by omega) _,(Y.off1 (by omega) _).one _,HN⟩)
theorem wby_w (h l d H L:Nat) (hh:h<18446744073709551616) (hl:l<18446744073709551616) (hd:0<d) (hd2:d<=9223372036854775808) (S:Sg H L (((h*18446744073709551616+l)/d:Nat):Int)) (w:World) :
  Calls Try.prog 95 #[.agg #[.int .u64 (h:Int),.int .u64 (l:Int)],.int .u64 (d:Int)] w fun r w'=>r=.returned (.tuple #[.agg #[.int .u64 (H:Int),.int .u64 (L:Int)],.int .u64 (((h*18446744073709551616+l)%d:Nat):Int)])/\Below w.heap.size w w':=by
 by_cases h0:h=0
 ·subst h0
  rw [Nat.zero_mul,Nat.zero_add] at S ⊢
  have q:l/d<18446744073709551616:=Nat.lt_of_le_of_lt (Nat.div_le_self _ _) hl
  have u:=S.uniq (h':=0) (l':=l/d) ⟨by decide,q,by generalize l/d=x at q ⊢;omega⟩
  rw [u.1,u.2]
  exact wby_0 l d hl hd w
 ·exact wby_n h l d H L h0 hh hl hd hd2 S w
end Go.Proofs.Ytbejmklkicoibaa
namespace Go.Proofs.Ytbejmklkicoibaa
def natOf:List Nat->Nat
 | []=>0
 | d :: ds=>d+4294967296*natOf ds
def Digs (ds:List Nat):Prop:=∀d∈ds,d<4294967296
def Trimmed (ds:List Nat):Prop:=0<ds.length->ds.getD (ds.length-1) 0≠0
theorem natOf_append (a b:List Nat):natOf (a++b)=natOf a+4294967296^a.length*natOf b:=by
 induction a with
 | nil=>simp [natOf]
 | cons d a ih=>simp only [List.cons_append,natOf,ih,List.length_cons,Nat.pow_succ,Nat.mul_add];rw [Nat.mul_comm (4294967296^a.length) 4294967296,Nat.mul_assoc];omega
theorem natOf_lt {ds:List Nat} (h:Digs ds):natOf ds<4294967296^ds.length:=by
 induction ds with
 | nil=>simp [natOf]
 | cons d a ih =>
  have h1:=h d (by simp)
  have h2:=ih (fun x hx=>h x (by simp [hx]))
  simp only [natOf,List.length_cons,Nat.pow_succ]
  omega
theorem Digs.take {ds:List Nat} (h:Digs ds) (k:Nat):Digs (ds.take k):=fun d hd=>h d (List.mem_of_mem_take hd)
theorem Digs.getD {ds:List Nat} (h:Digs ds) (k:Nat):ds.getD k 0<4294967296:=by
 rw [List.getD_eq_getElem?_getD]
 rcases Nat.lt_or_ge k ds.length with c | c
 ·rw [List.getElem?_eq_getElem c];exact h _ (List.getElem_mem c)
 ·rw [List.getElem?_eq_none c];simp
theorem Digs.append {a b:List Nat} (h:Digs a) (k:Digs b):Digs (a++b):=fun d hd=>by rcases List.mem_append.1 hd with c | c;exact h d c;exact k d c
theorem Digs.one {d:Nat} (h:d<4294967296):Digs [d]:=fun x hx=>by simp at hx;omega
theorem Digs.nil:Digs []:=fun x hx=>by simp at hx
theorem take_succ_getD (ds:List Nat) {k:Nat} (h:k<ds.length):ds.take (k+1)=ds.take k++[ds.getD k 0]:=by
 rw [List.take_add_one,List.getD_eq_getElem?_getD,List.getElem?_eq_getElem h];simp
theorem natOf_take_succ (ds:List Nat) {k:Nat} (h:k<ds.length):natOf (ds.take (k+1))=natOf (ds.take k)+4294967296^k*ds.getD k 0:=by
 rw [take_succ_getD ds h,natOf_append,List.length_take,Nat.min_eq_left (by omega)];simp [natOf]
theorem natOf_take_ge (ds:List Nat) {k:Nat} (h:ds.length<=k):natOf (ds.take k)=natOf ds:=by rw [List.take_of_length_le h]
theorem getD_ge (ds:List Nat) {k:Nat} (h:ds.length<=k):ds.getD k 0=0:=by
 rw [List.getD_eq_getElem?_getD,List.getElem?_eq_none h];rfl
theorem natOf_take_step (ds:List Nat) (k:Nat):natOf (ds.take (k+1))=natOf (ds.take k)+4294967296^k*ds.getD k 0:=by
 rcases Nat.lt_or_ge k ds.length with c | c
 ·exact natOf_take_succ ds c
 ·rw [natOf_take_ge ds (by omega),natOf_take_ge ds c,getD_ge ds c];simp
theorem Trimmed.low {ds:List Nat} (h:Trimmed ds) (hl:0<ds.length):4294967296^(ds.length-1)<=natOf ds:=by
 have e:=natOf_take_succ ds (k:=ds.length-1) (by omega)
 rw [natOf_take_ge ds (by omega)] at e
 have p:=h hl
 have:=Nat.mul_le_mul_left (4294967296^(ds.length-1)) (show 1<=ds.getD (ds.length-1) 0 by omega)
 omega
theorem pow32 (k:Nat):4294967296^k=2^(32*k):=by rw [Nat.pow_mul]
theorem Trimmed.len {ds:List Nat} (h:Trimmed ds) {k:Nat} (hn:natOf ds<2^k):32*ds.length<k+32:=by
 rcases Nat.eq_zero_or_pos ds.length with c | c
 ·omega
 ·have h1:=h.low c
  rw [pow32] at h1
  have:=(Nat.pow_lt_pow_iff_right (show 1<2 by omega)).1 (Nat.lt_of_le_of_lt h1 hn)
  omega
theorem Trimmed.zero {ds:List Nat} (h:Trimmed ds):natOf ds=0↔ds.length=0:=by
 constructor
 ·intro e
  rcases Nat.eq_zero_or_pos ds.length with c | c
  ·exact c
  ·have:=h.low c
   have:=Nat.pow_pos (a:=4294967296) (n:=ds.length-1) (by omega)
   omega
 ·intro e
  have:ds=[]:=List.eq_nil_of_length_eq_zero e
  subst this;rfl
theorem trimmed_nil:Trimmed []:=fun h=>by simp at h
theorem natOf_lt_of_len {a b:List Nat} (ha:Digs a) (hb:Trimmed b) (h:a.length<b.length):natOf a<natOf b:=by
 have h1:=natOf_lt ha
 have h2:=hb.low (by omega)
 have h3:=Nat.pow_le_pow_right (show 4294967296>0 by omega) (show a.length<=b.length-1 by omega)
 omega
theorem natOf_split (ds:List Nat) (k:Nat):natOf ds=natOf (ds.take k)+4294967296^k*natOf (ds.drop k):=by
 rcases Nat.lt_or_ge k ds.length with c | c
 ·have:=natOf_append (ds.take k) (ds.drop k)
  rw [List.take_append_drop,List.length_take,Nat.min_eq_left (by omega)] at this
  exact this
 ·rw [natOf_take_ge ds c,List.drop_of_length_le c];simp [natOf]
theorem natOf_lt_at {a b:List Nat} (ha:Digs a) {k:Nat} (hk:k<a.length) (hl:a.length=b.length) (ht:a.drop (k+1)=b.drop (k+1)) (hd:a.getD k 0<b.getD k 0):natOf a<natOf b:=by
 rw [natOf_split a (k+1),natOf_split b (k+1),ht,natOf_take_succ a hk,natOf_take_succ b (by omega)]
 have h1:=natOf_lt (ha.take k)
 rw [List.length_take,Nat.min_eq_left (by omega)] at h1
 have h2:=Nat.mul_le_mul_left (4294967296^k) (show a.getD k 0+1<=b.getD k 0 by omega)
 rw [Nat.mul_add] at h2
 omega
theorem drop_eq_step {a b:List Nat} {k:Nat} (hk:k<a.length) (hl:a.length=b.length) (ht:a.drop (k+1)=b.drop (k+1)) (hd:a.getD k 0=b.getD k 0):a.drop k=b.drop k:=by
 rw [List.drop_eq_getElem_cons hk,List.drop_eq_getElem_cons (show k<b.length by omega),ht]
 rw [List.getD_eq_getElem?_getD,List.getD_eq_getElem?_getD,List.getElem?_eq_getElem hk,List.getElem?_eq_getElem (show k<b.length by omega)] at hd
 simp at hd
 rw [hd]
theorem trim_step (ds:List Nat) {k:Nat} (hk:k<ds.length) (h:ds.getD k 0=0):natOf (ds.take k)=natOf (ds.take (k+1)):=by
 rw [natOf_take_succ ds hk,h];simp
theorem trim_end (ds:List Nat) {k:Nat} (hk:k<ds.length) (h:ds.getD k 0≠0):Trimmed (ds.take (k+1)):=by
 intro _
 rw [List.length_take,Nat.min_eq_left (by omega),List.getD_eq_getElem?_getD,Nat.add_sub_cancel,List.getElem?_take,if_pos (by omega),<-List.getD_eq_getElem?_getD]
 exact h
theorem natOf_set (ds:List Nat) (k v:Nat) (hk:k<ds.length):natOf (ds.set k v)+4294967296^k*ds.getD k 0=natOf ds+4294967296^k*v:=by
 induction ds generalizing k with
 | nil=>simp at hk
 | cons d a ih =>
  cases k with
  | zero=>simp [natOf];omega
  | succ k =>
   have:=ih k (by simpa using hk)
   simp only [List.set_cons_succ,natOf,List.getD_cons_succ,Nat.pow_succ]
   rw [Nat.mul_comm (4294967296^k) 4294967296,Nat.mul_assoc,Nat.mul_assoc]
   omega
theorem natOf_zeros (n:Nat):natOf (List.replicate n 0)=0:=by
 induction n with
 | zero=>rfl
 | succ n ih=>simp [List.replicate_succ,natOf,ih]
theorem digs_zeros (n:Nat):Digs (List.replicate n 0):=fun d hd=>by have:=(List.mem_replicate.1 hd).2;omega
theorem Digs.set {ds:List Nat} (h:Digs ds) (k:Nat) {v:Nat} (hv:v<4294967296):Digs (ds.set k v):=fun d hd=>by
 rcases List.mem_or_eq_of_mem_set hd with c | c
 ·exact h d c
 ·omega
end Go.Proofs.Ytbejmklkicoibaa
