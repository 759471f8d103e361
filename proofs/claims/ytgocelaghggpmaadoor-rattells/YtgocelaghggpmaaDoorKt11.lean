/- The program's whole numbers of one and two words (rat): amounts, divisors, halves, products. The program's whole numbers of two words (rat): products, sums, negatives, signs. The program's whole numbers of two words (rat): sums, negatives, products with a sign. The program's whole numbers of two words (rat): division bit by bit. -/
import Derived.Test.YtgocelaghggpmaaDoorKt02
import Derived.BigQuiet
import Derived.Deep.LoopGhost
import Derived.Deep.CutRange
import Derived.Test.YtgocelaghggpmaaDoorKt10
namespace Go.Proofs.YtgocelaghggpmaaDoor
open Go.ChangeShapes Go.WideShapes Go.ChangeAt Go.RowKit
theorem ramount_w (n:Int) (h1:-9223372036854775808≤n) (h2:n≤9223372036854775807) (w:World) :
   Calls Tryd.prog 52 #[.int .i64 n] w fun r w'=>r=.returned (.int .u64 ((n.natAbs:Nat):Int))∧w=w':=by
 have e1:n<0→IntKind.u64.wrap (-IntKind.u64.wrap n)=(n.natAbs:Int):=fun c=>by rw [IntKind.wrap_u64,IntKind.wrap_u64];omega
 have e2:¬n<0→IntKind.u64.wrap n=(n.natAbs:Int):=fun c=>by rw [IntKind.wrap_u64];omega
 generalize n.natAbs=m at *
 by_cases c:n<0
 · have e:=e1 c
   clear e1 e2
   go_enter Tryd.func52,Tryd.ntmps52
   go_wp2_with fail
   go_ret
   exact⟨rfl,rfl⟩
 · have e:=e2 c
   clear e1 e2
   go_enter Tryd.func52,Tryd.ntmps52
   go_wp2_with fail
   go_ret
   exact⟨rfl,rfl⟩
theorem rem_u64 (m n:Nat):Int.tmod (m:Int) (n:Int)=((m%n:Nat):Int):=rfl
theorem quo_u64 (m n:Nat):Int.tdiv (m:Int) (n:Int)=((m/n:Nat):Int):=rfl
set_option maxHeartbeats 1000000 in
theorem rdivisor_w (a b:Nat) (w:World) :
   Calls Tryd.prog 60 #[.int .u64 (a:Int),.int .u64 (b:Int)] w fun r w'=>r=.returned (.int .u64 ((Nat.gcd a b:Nat):Int))∧Below w.heap.size w w':=by
 go_enter Tryd.func60,Tryd.ntmps60
 go_upto_region 1 with fail
 go_loopg [0,1] b (fun G s0 s1 wx=>∃(m n:Nat),n≤G∧Below w.heap.size w wx∧s0=.int .u64 (m:Int)∧s1=.int .u64 (n:Int)∧Hid (Nat.gcd m n=Nat.gcd a b))
 case atStart=>exact⟨a,b,Nat.le_refl _,Below.refl _ _,rfl,rfl,rfl⟩
 case round =>
   obtain⟨m,n,hG,HB,rfl,rfl,H⟩:=hrel
   by_cases cn:n=0
   · subst cn
     have e:Hid (m=Nat.gcd a b):=by
       show m=Nat.gcd a b
       rw [←H.out,Nat.gcd_zero_right]
     clear H
     go_wp2_with fail
     go_ret
     exact⟨congrArg (fun x:Nat=>Ending.returned (Value.int .u64 (x:Int))) e.out,HB⟩
   · have z:((n:Int) != 0)=true:=by simpa using cn
     have z1:¬(n:Int)=0:=by omega
     have lt:=Nat.mod_lt m (show 0<n by omega)
     have H2:Hid (Nat.gcd n (m%n)=Nat.gcd a b):=by
       show Nat.gcd n (m%n)=Nat.gcd a b
       rw [←H.out,Nat.gcd_comm n,←Nat.gcd_rec,Nat.gcd_comm]
     have er:=rem_u64 m n
     clear H
     generalize m%n=d at *
     go_wp2_with fail
     go_region
     all_goals
       go_wp2_with fail
       (go_roundg d
        case measure=>omega
        case rel=>exact⟨n,d,Nat.le_refl _,HB.drew,rfl,rfl,H2⟩)
def Sg (h l:Nat) (z:Int):Prop:=h<18446744073709551616∧l<18446744073709551616∧((h*18446744073709551616+l:Nat):Int)=z%340282366920938463463374607431768211456
theorem sg_ex (z:Int):∃h l,Sg h l z:=by
 refine⟨(z%340282366920938463463374607431768211456).toNat/18446744073709551616,(z%340282366920938463463374607431768211456).toNat%18446744073709551616, ?_, ?_, ?_⟩ <;> omega
theorem Sg.uniq {h l h' l':Nat} {z:Int} (a:Sg h l z) (b:Sg h' l' z):h=h'∧l=l':=by
 obtain⟨a1,a2,a3⟩:=a
 obtain⟨b1,b2,b3⟩:=b
 omega
theorem Sg.nat {h l:Nat} {z:Int} (a:Sg h l z) (h0:0≤z) (h1:z<340282366920938463463374607431768211456):((h*18446744073709551616+l:Nat):Int)=z:=by
 obtain⟨a1,a2,a3⟩:=a
 omega
theorem bit_of {l k:Nat} (hk:k<64):l*2^k%18446744073709551616/9223372036854775808=l/2^(64-(k+1))%2:=by
 have e:(9223372036854775808:Nat)=2^63:=by decide
 have e2:(18446744073709551616:Nat)=2^63*2:=by decide
 rw [e2,e,Nat.mod_mul_right_div_self]
 have:l*2^k/2^63=l/2^(64-(k+1)):=by
   have e3:(2:Nat)^63=2^(64-(k+1))*2^k:=by rw [←Nat.pow_add];congr 1;omega
   rw [e3,Nat.mul_div_mul_right _ _ (Nat.two_pow_pos k)]
 rw [this]
theorem half_of {l k:Nat} (hk:k<64):l/2^(64-k)=l/2^(64-(k+1))/2:=by
 rw [Nat.div_div_eq_div_mul,←Nat.pow_succ]
 congr 2
 omega
theorem twice_of {l k:Nat}:l*2^k%18446744073709551616*2%18446744073709551616=l*2^(k+1)%18446744073709551616:=by
 rw [Nat.mod_mul_mod,Nat.pow_succ,Nat.mul_assoc]
def ByI (h l d k r q a:Nat):Prop:=r<d∧a=l*2^k%18446744073709551616∧q<2^k∧h%d*2^k+l/2^(64-k)=q*d+r
theorem byI_start {h l d:Nat} (hd:0<d) (hl:l<18446744073709551616):ByI h l d 0 (h%d) 0 l:=by
 refine⟨Nat.mod_lt _ hd, ?_,by decide, ?_⟩
 · rw [Nat.pow_zero,Nat.mul_one,Nat.mod_eq_of_lt hl]
 · rw [Nat.pow_zero,Nat.mul_one,Nat.sub_zero,Nat.div_eq_of_lt (by simpa using hl)]
   omega
theorem byI_step {h l d k r q a:Nat} (hk:k<64) (H:ByI h l d k r q a):(d≤2*r+a/9223372036854775808→ByI h l d (k+1) (2*r+a/9223372036854775808-d) (2*q+1) (a*2%18446744073709551616)) ∧
   (¬d≤2*r+a/9223372036854775808→ByI h l d (k+1) (2*r+a/9223372036854775808) (2*q) (a*2%18446744073709551616)):=by
 obtain⟨h1,h2,h3,h4⟩:=H
 have b:=bit_of (l:=l) hk
 rw [←h2] at b
 have hf:=half_of (l:=l) hk
 have e:h%d*2^(k+1)+l/2^(64-(k+1))=2*(q*d+r)+a/9223372036854775808:=by
   rw [←h4,hf,b,Nat.pow_succ]
   generalize l/2^(64-(k+1))=x
   rw [←Nat.mul_assoc]
   generalize h%d*2^k=y
   omega
 have ha:a*2%18446744073709551616=l*2^(k+1)%18446744073709551616:=by rw [h2];exact twice_of
 have bb:a/9223372036854775808<2:=by rw [b];exact Nat.mod_lt _ (by omega)
 generalize a/9223372036854775808=t at *
 refine⟨fun c=>⟨by omega,ha,by rw [Nat.pow_succ];omega, ?_⟩,fun c=>⟨by omega,ha,by rw [Nat.pow_succ];omega, ?_⟩⟩
 · rw [e,Nat.add_mul,Nat.mul_assoc,Nat.one_mul]
   omega
 · rw [e,Nat.mul_assoc]
   omega
theorem byI_end {h l d r q a:Nat} (hd:0<d) (H:ByI h l d 64 r q a):q<18446744073709551616∧(h*18446744073709551616+l)/d=h/d*18446744073709551616+q∧(h*18446744073709551616+l)%d=r:=by
 obtain⟨h1,h2,h3,h4⟩:=H
 have e:(2:Nat)^64=18446744073709551616:=by decide
 rw [e] at h3 h4
 rw [Nat.sub_self,Nat.pow_zero,Nat.div_one] at h4
 refine⟨h3, ?_⟩
 have key:h*18446744073709551616+l=r+d*(h/d*18446744073709551616+q):=by
   have:=Nat.div_add_mod h d
   generalize h/d=x at *
   generalize h%d=y at *
   generalize 18446744073709551616=B at *
   subst this
   grind
 rw [key,Nat.add_mul_div_left _ _ hd,Nat.add_mul_mod_self_left,Nat.div_eq_of_lt h1,Nat.mod_eq_of_lt h1]
 simp
theorem or_two (r t:Nat) (hr:2*r+t<18446744073709551616) (ht:t<2):bits .or .u64 ((2*r:Nat):Int) (t:Int)=((2*r+t:Nat):Int):=by
 have e:2*r ||| t=2*r+t:=by
   have:=Nat.two_pow_add_eq_or_of_lt (i:=1) (b:=t) (by simpa using ht) r
   rw [show 2^1*r=2*r by omega] at this
   exact this.symm
 rw [u64_or_nat (2*r) t (by omega) (by omega),e]
theorem Has2.one {w:World} {b:Nat} {x y:Value} (h:Has2 w b x y) (y':Value):Has2 (w.setCell ⟨b,1,none⟩ y') b x y':=by
 obtain⟨h0,h1,f0,f1,hl⟩:=h
 refine⟨by go_simp,by go_simp,by go_simp,by go_simp, ?_⟩
 simp only [World.size_setCell];exact hl
theorem Has2.off1 {w:World} {b c o:Nat} {x y:Value} (h:Has2 w b x y) (hne:b≠c) (v:Value):Has2 (w.setCell ⟨c,o,none⟩ v) b x y:=by
 obtain⟨h0,h1,f0,f1,hl⟩:=h
 have hne':c≠b:=fun e=>hne e.symm
 refine⟨by simp [World.cell?_setCell_far, *],by simp [World.cell?_setCell_far, *],by go_simp,by go_simp, ?_⟩
 simp only [World.size_setCell];exact hl
set_option maxHeartbeats 2000000 in
theorem wby_0 (l d:Nat) (hl:l<18446744073709551616) (hd:0<d) (w:World) :
   Calls Tryd.prog 69 #[.agg #[.int .u64 ((0:Nat):Int),.int .u64 (l:Int)],.int .u64 (d:Int)] w fun r w'=>r=.returned (.tuple #[.agg #[.int .u64 ((0:Nat):Int),.int .u64 ((l/d:Nat):Int)],.int .u64 ((l%d:Nat):Int)])∧Below w.heap.size w w':=by
 have ed:¬(d:Int)=0:=by omega
 have e1:=quo_u64 l d
 have e2:=rem_u64 l d
 have h0:((0:Nat):Int)=0:=rfl
 rw [h0]
 obtain⟨q,hq⟩:∃x,x=l/d:=⟨_,rfl⟩
 obtain⟨r,hr⟩:∃x,x=l%d:=⟨_,rfl⟩
 rw [←hq] at e1 ⊢
 rw [←hr] at e2 ⊢
 have e3:IntKind.u64.wrap (q:Int)=(q:Int):=by rw [IntKind.wrap_u64,hq];have:=Nat.div_le_self l d;omega
 clear hq hr
 go_enter Tryd.func69,Tryd.ntmps69
 go_upto_region 2 with fail
 go_region
 go_wp2_with fail
 refine bodyPost_ret (v:=.tuple #[.agg #[.int .u64 0,.int .u64 (q:Int)],.int .u64 (r:Int)]) (by simp [results,Tryd.results69,go_sem, *]) rfl ⟨?_, ?_⟩
 · rfl
 · repeat' (first | go_grown | (with_reducible refine Below.setCell ?_ ?_ _) | go_size)
set_option maxHeartbeats 2000000 in
theorem wby_n (h l d H L:Nat) (h0:¬h=0) (hh:h<18446744073709551616) (hl:l<18446744073709551616) (hd:0<d) (hd2:d≤9223372036854775808) (S:Sg H L (((h*18446744073709551616+l)/d:Nat):Int)) (w:World) :
   Calls Tryd.prog 69 #[.agg #[.int .u64 (h:Int),.int .u64 (l:Int)],.int .u64 (d:Int)] w fun r w'=>r=.returned (.tuple #[.agg #[.int .u64 (H:Int),.int .u64 (L:Int)],.int .u64 (((h*18446744073709551616+l)%d:Nat):Int)])∧Below w.heap.size w w':=by
 have ed:¬(d:Int)=0:=by omega
 have hz:((h:Int)==0)=false:=by simp;omega
 have e1:=quo_u64 h d
 have e2:=rem_u64 h d
 have H0:Hid (ByI h l d 0 (h%d) 0 l):=byI_start hd hl
 obtain⟨qh,hqh⟩:∃x,x=h/d:=⟨_,rfl⟩
 obtain⟨r0,hr0⟩:∃x,x=h%d:=⟨_,rfl⟩
 have HE:Hid (∀r q a,ByI h l d 64 r q a→H=qh∧L=q∧(h*18446744073709551616+l)%d=r):=by
   intro r q a B
   obtain⟨b1,b2,b3⟩:=byI_end hd B
   have u:=S.uniq (h':=h/d) (l':=q) ⟨Nat.lt_of_le_of_lt (Nat.div_le_self _ _) hh,b1,by
     rw [b2]
     have:h/d<18446744073709551616:=Nat.lt_of_le_of_lt (Nat.div_le_self _ _) hh
     omega⟩
   exact⟨u.1.trans hqh.symm,u.2,b3⟩
 rw [←hqh] at e1
 rw [←hr0] at e2 H0
 have e3:IntKind.u64.wrap (qh:Int)=(qh:Int):=by rw [IntKind.wrap_u64,hqh];have:=Nat.div_le_self h d;omega
 clear S hqh hr0 hh hl h0
 go_enter Tryd.func69,Tryd.ntmps69
 go_upto_region 3 with fail
 go_region
 go_upto_region 5 with fail
 have X:Has2 ((w.alloc (.cells #[.int .u64 (h:Int),.int .u64 (l:Int)] 92)).alloc (.cells #[.int .u64 (qh:Int),.int .u64 0] 92)).drew w.heap.size (.int .u64 (h:Int)) (.int .u64 (l:Int)):=⟨by go_simp,by go_simp,by go_simp,by go_simp,by go_size⟩
 have Y:Has2 ((w.alloc (.cells #[.int .u64 (h:Int),.int .u64 (l:Int)] 92)).alloc (.cells #[.int .u64 (qh:Int),.int .u64 0] 92)).drew (w.heap.size+1) (.int .u64 (qh:Int)) (.int .u64 0):=⟨by go_simp,by go_simp,by go_simp,by go_simp,by go_size⟩
 have HB:Below w.heap.size w ((w.alloc (.cells #[.int .u64 (h:Int),.int .u64 (l:Int)] 92)).alloc (.cells #[.int .u64 (qh:Int),.int .u64 0] 92)).drew:=by go_grown
 generalize ((w.alloc (.cells #[.int .u64 (h:Int),.int .u64 (l:Int)] 92)).alloc (.cells #[.int .u64 (qh:Int),.int .u64 0] 92)).drew=V1 at *
 clear e1 e2 e3 ed hz
 go_loopg [5,27] (64:Nat) (fun G s5 s27 wx=>∃(k r q a:Nat),s5=.int .u64 (r:Int)∧s27=.int .i64 (k:Int)∧k≤64∧64≤k+G∧Below w.heap.size w wx∧Has2 wx w.heap.size (.int .u64 (h:Int)) (.int .u64 (a:Int))∧Has2 wx (w.heap.size+1) (.int .u64 (qh:Int)) (.int .u64 (q:Int))∧Hid (ByI h l d k r q a))
 case atStart=>exact⟨0,r0,0,l,rfl,rfl,by omega,by omega,HB,X,Y,H0⟩
 case round =>
   clear X Y HB H0
   obtain⟨k,r,q,a,rfl,rfl,hk,hG,HB,X,Y,HI⟩:=hrel
   obtain⟨x0,x1,x2,x3,x4⟩:=id X
   obtain⟨y0,y1,y2,y3,y4⟩:=id Y
   by_cases c:k=64
   · subst c
     obtain⟨v1,v2,v3⟩:=HE.out r q a HI.out
     have FE:Hid (H=qh∧L=q∧(h*18446744073709551616+l)%d=r):=⟨v1,v2,v3⟩
     clear v1 v2 v3 HE HI
     go_wp2_with fail
     refine bodyPost_ret (v:=.tuple #[.agg #[.int .u64 (qh:Int),.int .u64 (q:Int)],.int .u64 (r:Int)]) (by simp [results,Tryd.results69,go_sem, *]) rfl ⟨?_, ?_⟩
     · rw [FE.out.1,FE.out.2.1,FE.out.2.2]
     · repeat' (first | (with_reducible exact HB) | (with_reducible refine Below.setCell ?_ ?_ _) | go_size)
   · have kl:(k:Int)<64:=by omega
     obtain⟨s1,s2⟩:=byI_step (show k<64 by omega) HI.out
     have hrd:=HI.out.1
     have hq:q<9223372036854775808:=by
       have h1:=HI.out.2.2.1
       have:(2:Nat)^k≤2^63:=Nat.pow_le_pow_right (by omega) (by omega)
       have e:(2:Nat)^63=9223372036854775808:=by decide
       omega
     have ha:a<18446744073709551616:=by
       have h1:=HI.out.2.1
       have:=Nat.mod_lt (l*2^k) (show 0<18446744073709551616 by decide)
       omega
     obtain⟨t,ht⟩:∃t,t=a/9223372036854775808:=⟨_,rfl⟩
     obtain⟨a',ha'⟩:∃t,t=a*2%18446744073709551616:=⟨_,rfl⟩
     have t2:t<2:=by omega
     rw [←ht,←ha'] at s1 s2
     have f1:IntKind.u64.wrap ((r:Int)*2)=((2*r:Nat):Int):=by rw [IntKind.wrap_u64];omega
     have f2:(a:Int)/9223372036854775808=(t:Int):=by omega
     have f3:=or_two r t (by omega) t2
     have f4:IntKind.u64.wrap ((a:Int)*2)=(a':Int):=by rw [IntKind.wrap_u64];omega
     have f5:IntKind.u64.wrap ((q:Int)*2)=((2*q:Nat):Int):=by rw [IntKind.wrap_u64];omega
     have f6:=or_two q 1 (by omega) (by omega)
     have f7:((1:Nat):Int)=1:=rfl
     rw [f7] at f6
     have b3:2*r+t<18446744073709551616:=by omega
     clear f7 ht ha' HI HE
     generalize 2*r+t=R at *
     generalize 2*r=r2 at *
     generalize 2*q+1=q3 at *
     generalize 2*q=q2 at *
     by_cases cd:d≤R
     · have HN:Hid (ByI h l d (k+1) (R-d) q3 a'):=s1 cd
       have cd':(d:Int)≤(R:Int):=by omega
       have f8:IntKind.u64.wrap ((R:Int)-(d:Int))=((R-d:Nat):Int):=by rw [IntKind.wrap_u64];omega
       have nn:k+1≤64:=by omega
       clear s1 s2 cd hq ha hrd t2
       generalize R-d=R2 at *
       go_wp2_with fail
       (go_roundg (gk-1)
        case measure=>omega
        case rel=>exact⟨k+1,R2,q3,a',rfl,congrArg (Value.int .i64) (show (k:Int)+1=((k+1:Nat):Int) by omega),nn,by omega,by (repeat' (first | (with_reducible exact HB) | (with_reducible refine Below.setCell ?_ ?_ _) | go_size)),((X.one _).off1 (by omega) _).off1 (by omega) _,((Y.off1 (by omega) _).one _).one _,HN⟩)
     · have HN:Hid (ByI h l d (k+1) R q2 a'):=s2 cd
       have cd':¬(d:Int)≤(R:Int):=by omega
       have nn:k+1≤64:=by omega
       clear s1 s2 cd hq ha hrd t2
       go_wp2_with fail
       (go_roundg (gk-1)
        case measure=>omega
        case rel=>exact⟨k+1,R,q2,a',rfl,congrArg (Value.int .i64) (show (k:Int)+1=((k+1:Nat):Int) by omega),nn,by omega,by (repeat' (first | (with_reducible exact HB) | (with_reducible refine Below.setCell ?_ ?_ _) | go_size)),(X.one _).off1 (by omega) _,(Y.off1 (by omega) _).one _,HN⟩)
theorem wby_w (h l d H L:Nat) (hh:h<18446744073709551616) (hl:l<18446744073709551616) (hd:0<d) (hd2:d≤9223372036854775808) (S:Sg H L (((h*18446744073709551616+l)/d:Nat):Int)) (w:World) :
   Calls Tryd.prog 69 #[.agg #[.int .u64 (h:Int),.int .u64 (l:Int)],.int .u64 (d:Int)] w fun r w'=>r=.returned (.tuple #[.agg #[.int .u64 (H:Int),.int .u64 (L:Int)],.int .u64 (((h*18446744073709551616+l)%d:Nat):Int)])∧Below w.heap.size w w':=by
 by_cases h0:h=0
 · subst h0
   rw [Nat.zero_mul,Nat.zero_add] at S ⊢
   have q:l/d<18446744073709551616:=Nat.lt_of_le_of_lt (Nat.div_le_self _ _) hl
   have u:=S.uniq (h':=0) (l':=l/d) ⟨by decide,q,by generalize l/d=x at q ⊢;omega⟩
   rw [u.1,u.2]
   exact wby_0 l d hl hd w
 · exact wby_n h l d H L h0 hh hl hd hd2 S w
end Go.Proofs.YtgocelaghggpmaaDoor
