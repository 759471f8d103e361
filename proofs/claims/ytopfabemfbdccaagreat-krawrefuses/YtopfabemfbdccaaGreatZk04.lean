/- Plain arithmetic of a long division by two digits of 32 bits (no Go text is spoken of here). The walk of math/bits' Div64, of a divisor whose first bit is set: quotient and rest of two words by one. The walk of rootOfWords: the whole part of the root of a word times 2^64. -/
import Derived.WalkKit
import Derived.Test.YtopfabemfbdccaaGreatZk02
import Derived.Deep.CutBlock
import Derived.Deep.CutRange
import Derived.Deep.LoopGhost
namespace Go.Proofs.YtopfabemfbdccaaGreat
theorem knuth_lt {u v y:Nat} (hu:u<y) (hv:v<4294967296):(u*4294967296+v)/y<4294967296:=by
 refine Nat.div_lt_of_lt_mul ?_
 have h:(u+1)*4294967296<=y*4294967296:=Nat.mul_le_mul_right _ hu
 omega
theorem knuth_start {u v y yn1 yn0:Nat} (hy:y=yn1*4294967296+yn0) (h1:2147483648<=yn1) (hv:v<4294967296):(u*4294967296+v)/y<=u/yn1:=by
 rw [Nat.le_div_iff_mul_le (by omega)]
 have h:=Nat.div_mul_le_self (u*4294967296+v) y
 generalize (u*4294967296+v)/y=q at *
 subst hy
 rw [Nat.mul_add,<-Nat.mul_assoc] at h
 have h2:q*yn1*4294967296<(u+1)*4294967296:=by omega
 have h3:=Nat.lt_of_mul_lt_mul_right h2
 omega
theorem knuth_top {u y yn1 yn0:Nat} (hy:y=yn1*4294967296+yn0) (h1:2147483648<=yn1) (h0:yn0<4294967296) (hu:u<y):u/yn1<=4294967297:=by
 have:u/yn1<4294967298:=by
  refine Nat.div_lt_of_lt_mul ?_
  omega
 omega
theorem knuth_step {u v y yn1 yn0 a b:Nat} (hy:y=yn1*4294967296+yn0) (h1:2147483648<=yn1) (h:b+a*yn1=u):(u*4294967296+v)/y<a↔4294967296*b+v<a*yn0:=by
 rw [Nat.div_lt_iff_lt_mul (by omega)]
 subst hy
 subst h
 rw [Nat.mul_add,<-Nat.mul_assoc,Nat.add_mul]
 omega
end Go.Proofs.YtopfabemfbdccaaGreat
namespace Go.Proofs.YtopfabemfbdccaaGreat
open Go.ChangeShapes Go.WideShapes Go.ChangeAt Go.RowKit
set_option maxHeartbeats 2000000 in
set_option maxRecDepth 100000 in
theorem div64_core (hi lo y yn1 yn0 un1 un0 qh rh Q1 R1 q2 r2 Q0 R0:Nat) (hy:((y:Int)==0)=false) (hle:¬(y:Int)<=(hi:Int)) (hh:((hi:Int)==0)=false)
  (hyl:y<18446744073709551616) (hll:lo<18446744073709551616) (hyn:¬yn1=0) (hyn1:yn1<4294967296) (hun1:un1<4294967296) (hun0:un0<4294967296)
  (hlz:∀w,Calls Tryz.prog 249 #[.int .u64 y] w fun r w'=>r=.returned (.int .i64 0)/\w=w')
  (e1:(y:Int)/4294967296=(yn1:Int)) (e2:bits .and .u64 (y:Int) 4294967295=(yn0:Int)) (e3:(lo:Int)/4294967296=(un1:Int)) (e4:bits .and .u64 (lo:Int) 4294967295=(un0:Int))
  (e5:(lo:Int)/18446744073709551616=0) (e6:bits .or .u64 (hi:Int) 0=(hi:Int))
  (e7:IntKind.u64.wrap ((hi:Int)/(yn1:Int))=(qh:Int)) (e8:IntKind.u64.wrap ((hi:Int)-IntKind.u64.wrap ((qh:Int)*(yn1:Int)))=(rh:Int))
  (P1 P2:Nat->Nat->Prop) (hq0:P1 qh rh) (hqb:∀a b,P1 a b->Q1<=a/\a<=4294967297/\b<4294967296)
  (hqA:∀a b,P1 a b->a<4294967296->∃A:Nat,IntKind.u64.wrap ((a:Int)*(yn0:Int))=(A:Int)/\(Q1<a↔4294967296*b+un1<A))
  (hqn:∀a b,P1 a b->Q1<a->b+yn1<4294967296->P1 (a-1) (b+yn1))
  (hqe:∀a b,P1 a b->Q1<a->4294967296<=b+yn1->a-1=Q1) (hQ1:Q1<4294967296)
  (f1:IntKind.u64.wrap (IntKind.u64.wrap (IntKind.u64.wrap ((hi:Int)*4294967296)+(un1:Int))-IntKind.u64.wrap ((Q1:Int)*(y:Int)))=(R1:Int))
  (f7:IntKind.u64.wrap ((R1:Int)/(yn1:Int))=(q2:Int)) (f8:IntKind.u64.wrap ((R1:Int)-IntKind.u64.wrap ((q2:Int)*(yn1:Int)))=(r2:Int))
  (gq0:P2 q2 r2) (gqb:∀a b,P2 a b->Q0<=a/\a<=4294967297/\b<4294967296)
  (gqA:∀a b,P2 a b->a<4294967296->∃A:Nat,IntKind.u64.wrap ((a:Int)*(yn0:Int))=(A:Int)/\(Q0<a↔4294967296*b+un0<A))
  (gqn:∀a b,P2 a b->Q0<a->b+yn1<4294967296->P2 (a-1) (b+yn1))
  (gqe:∀a b,P2 a b->Q0<a->4294967296<=b+yn1->a-1=Q0) (hQ0:Q0<4294967296)
  (f9:IntKind.u64.wrap (IntKind.u64.wrap (IntKind.u64.wrap ((R1:Int)*4294967296)+(un0:Int))-IntKind.u64.wrap ((Q0:Int)*(y:Int)))=(R0:Int))
  (w:World) :
  Calls Tryz.prog 273 #[.int .u64 hi,.int .u64 lo,.int .u64 y] w fun r w'=>r=.returned (.tuple #[.int .u64 ((Q1:Int)*4294967296+Q0),.int .u64 R0])/\w=w':=by
 go_enter Tryz.func273,Tryz.ntmps273
 go_upto_block 0 with (go_at_call 249;refine (hlz _).mono ?_;rintro _ _ ⟨rfl,rfl⟩)
 go_cut [15,16] from 67 to 85 (fun s15 _ wx=>w=wx/\s15=.int .u64 (Q1:Int))
 case first =>
  clear f1 f7 f8 gq0 gqb gqA gqn gqe hQ0 f9
  go_wp2_with fail
  obtain⟨N,hN⟩:∃N:Nat,4294967297<N:=⟨4294967298,by omega⟩
  go_loopg [15,16] N (fun g s15 s16 wx=>w=wx/\∃a b:Nat,a<=g/\P1 a b/\s15=.int .u64 (a:Int)/\s16=.int .u64 (b:Int))
  case atStart=>exact⟨rfl,qh,rh,by have:=hqb _ _ hq0;omega,hq0,rfl,rfl⟩
  case round =>
   obtain⟨rfl,a,b,hag,hP,rfl,rfl⟩:=hrel
   clear e1 e2 e3 e4 e5 e6 e7 e8 hy hle hh hlz hq0 hN
   obtain⟨b1,b2,b3⟩:=hqb _ _ hP
   by_cases hbig:a<4294967296
   ·obtain⟨A,hA,hAiff⟩:=hqA _ _ hP hbig
    by_cases ht:Q1<a
    ·have ht2:(4294967296:Int)*(b:Int)+(un1:Int)<(A:Int):=by have:=hAiff.1 ht;omega
     by_cases hbr:b+yn1<4294967296
     ·have hnew:=hqn _ _ hP ht hbr
      clear hqb hqA hqn hqe hAiff hP
      have hbigZ:¬(4294967296:Int)<=(a:Int):=by omega
      have hbrZ:¬(4294967296:Int)<=(b:Int)+(yn1:Int):=by omega
      have HT:Hid (Q1<a):=ht
      have HN:=(show Hid _ from hnew)
      have ha1:(1:Int)<=(a:Int):=by omega
      clear ht hnew hbr
      clear hbig b2
      go_upto_if 85 with fail
      have ht:=HT.out
      have hnew:=HN.out
      refine wp_cond_false (by simp [Act.eval]) ?_
      refine wp_skip ?_
      simp only [Exit.inBlock,Exit.then]
      apply_assumption
      refine Handed.intro (a-1) (by omega) ?_
      apply_assumption
      (repeat apply Exists.intro)
      refine⟨?_,rfl⟩
      exact⟨rfl,a-1,b+yn1,Nat.le_refl _,hnew,by congr 1;omega,by congr 1⟩
     ·have hnew:=hqe _ _ hP ht (by omega)
      clear hqb hqA hqn hqe hAiff hP
      have hbigZ:¬(4294967296:Int)<=(a:Int):=by omega
      have hbrZ:(4294967296:Int)<=(b:Int)+(yn1:Int):=by omega
      have HT:Hid (Q1<a):=ht
      have HN:=(show Hid _ from hnew)
      have ha1:(1:Int)<=(a:Int):=by omega
      clear ht hnew hbr
      clear hbig b2
      go_upto_if 85 with fail
      have ht:=HT.out
      have hnew:=HN.out
      refine wp_cond_true (by simp [Act.eval]) ?_
      refine wp_exit ?_
      simp only [Exit.inBlock,Exit.then,Nat.zero_ne_one,if_false,if_true]
      apply_assumption
      refine Met.intro ?_
      apply_assumption
      (repeat apply Exists.intro)
      refine⟨?_,rfl⟩
      exact⟨rfl,by congr 1;omega⟩
    ·have ht2:¬(4294967296:Int)*(b:Int)+(un1:Int)<(A:Int):=by intro hx;exact ht (hAiff.2 (by omega))
     have hnew:a=Q1:=by omega
     clear hqb hqA hqn hqe hAiff hP ht
     have hid:Hid (a=Q1):=hnew
     clear hnew
     have hbigZ:¬(4294967296:Int)<=(a:Int):=by omega
     clear hbig b2
     go_upto_if 78 with fail
     have hnew:=hid.out
     refine wp_cond_false (by simp [Act.eval]) ?_
     refine wp_exit ?_
     simp only [Exit.inBlock,Exit.then,if_true]
     apply_assumption
     refine Met.intro ?_
     apply_assumption
     (repeat apply Exists.intro)
     refine⟨?_,rfl⟩
     exact⟨rfl,by rw [hnew]⟩
   ·have ht:Q1<a:=by omega
    by_cases hbr:b+yn1<4294967296
    ·have hnew:=hqn _ _ hP ht hbr
     clear hqb hqA hqn hqe hP
     have hbigZ:(4294967296:Int)<=(a:Int)/\(a:Int)<=4294967297:=by omega
     have hbrZ:¬(4294967296:Int)<=(b:Int)+(yn1:Int):=by omega
     have HT:Hid (Q1<a):=ht
     have HN:=(show Hid _ from hnew)
     have ha1:(1:Int)<=(a:Int):=by omega
     clear ht hnew hbr
     clear hbig b2
     go_upto_if 85 with fail
     have ht:=HT.out
     have hnew:=HN.out
     refine wp_cond_false (by simp [Act.eval]) ?_
     refine wp_skip ?_
     simp only [Exit.inBlock,Exit.then]
     apply_assumption
     refine Handed.intro (a-1) (by omega) ?_
     apply_assumption
     (repeat apply Exists.intro)
     refine⟨?_,rfl⟩
     exact⟨rfl,a-1,b+yn1,Nat.le_refl _,hnew,by congr 1;omega,by congr 1⟩
    ·have hnew:=hqe _ _ hP ht (by omega)
     clear hqb hqA hqn hqe hP
     have hbigZ:(4294967296:Int)<=(a:Int)/\(a:Int)<=4294967297:=by omega
     have hbrZ:(4294967296:Int)<=(b:Int)+(yn1:Int):=by omega
     have HT:Hid (Q1<a):=ht
     have HN:=(show Hid _ from hnew)
     have ha1:(1:Int)<=(a:Int):=by omega
     clear ht hnew hbr
     clear hbig b2
     go_upto_if 85 with fail
     have ht:=HT.out
     have hnew:=HN.out
     refine wp_cond_true (by simp [Act.eval]) ?_
     refine wp_exit ?_
     simp only [Exit.inBlock,Exit.then,Nat.zero_ne_one,if_false,if_true]
     apply_assumption
     refine Met.intro ?_
     apply_assumption
     (repeat apply Exists.intro)
     refine⟨?_,rfl⟩
     exact⟨rfl,by congr 1;omega⟩
 case rest =>
 obtain⟨rfl,rfl⟩:=hcut
 clear hqb hqA hqn hqe hq0 e7 e8
 go_upto_block 2 with fail
 go_cut [18,16] from 102 to 120 (fun s18 _ wx=>w=wx/\s18=.int .u64 (Q0:Int))
 case first =>
  clear f1 f7 f8 f9
  go_wp2_with fail
  obtain⟨N,hN⟩:∃N:Nat,4294967297<N:=⟨4294967298,by omega⟩
  go_loopg [18,16] N (fun g s18 s16 wx=>w=wx/\∃a b:Nat,a<=g/\P2 a b/\s18=.int .u64 (a:Int)/\s16=.int .u64 (b:Int))
  case atStart=>exact⟨rfl,q2,r2,by have:=gqb _ _ gq0;omega,gq0,rfl,rfl⟩
  case round =>
   obtain⟨rfl,a,b,hag,hP,rfl,rfl⟩:=hrel
   clear e1 e2 e3 e4 e5 e6 hy hle hh hlz gq0 hN
   obtain⟨b1,b2,b3⟩:=gqb _ _ hP
   by_cases hbig:a<4294967296
   ·obtain⟨A,hA,hAiff⟩:=gqA _ _ hP hbig
    by_cases ht:Q0<a
    ·have ht2:(4294967296:Int)*(b:Int)+(un0:Int)<(A:Int):=by have:=hAiff.1 ht;omega
     by_cases hbr:b+yn1<4294967296
     ·have hnew:=gqn _ _ hP ht hbr
      clear gqb gqA gqn gqe hAiff hP
      have hbigZ:¬(4294967296:Int)<=(a:Int):=by omega
      have hbrZ:¬(4294967296:Int)<=(b:Int)+(yn1:Int):=by omega
      have HT:Hid (Q0<a):=ht
      have HN:=(show Hid _ from hnew)
      have ha1:(1:Int)<=(a:Int):=by omega
      clear ht hnew hbr
      clear hbig b2
      go_upto_if 120 with fail
      have ht:=HT.out
      have hnew:=HN.out
      refine wp_cond_false (by simp [Act.eval]) ?_
      refine wp_skip ?_
      simp only [Exit.inBlock,Exit.then]
      apply_assumption
      refine Handed.intro (a-1) (by omega) ?_
      apply_assumption
      (repeat apply Exists.intro)
      refine⟨?_,rfl⟩
      exact⟨rfl,a-1,b+yn1,Nat.le_refl _,hnew,by congr 1;omega,by congr 1⟩
     ·have hnew:=gqe _ _ hP ht (by omega)
      clear gqb gqA gqn gqe hAiff hP
      have hbigZ:¬(4294967296:Int)<=(a:Int):=by omega
      have hbrZ:(4294967296:Int)<=(b:Int)+(yn1:Int):=by omega
      have HT:Hid (Q0<a):=ht
      have HN:=(show Hid _ from hnew)
      have ha1:(1:Int)<=(a:Int):=by omega
      clear ht hnew hbr
      clear hbig b2
      go_upto_if 120 with fail
      have ht:=HT.out
      have hnew:=HN.out
      refine wp_cond_true (by simp [Act.eval]) ?_
      refine wp_exit ?_
      simp only [Exit.inBlock,Exit.then,show ¬(2:Nat)=3 by decide,if_false,if_true]
      apply_assumption
      refine Met.intro ?_
      apply_assumption
      (repeat apply Exists.intro)
      refine⟨?_,rfl⟩
      exact⟨rfl,by congr 1;omega⟩
    ·have ht2:¬(4294967296:Int)*(b:Int)+(un0:Int)<(A:Int):=by intro hx;exact ht (hAiff.2 (by omega))
     have hnew:a=Q0:=by omega
     clear gqb gqA gqn gqe hAiff hP ht
     have hid:Hid (a=Q0):=hnew
     clear hnew
     have hbigZ:¬(4294967296:Int)<=(a:Int):=by omega
     clear hbig b2
     go_upto_if 113 with fail
     have hnew:=hid.out
     refine wp_cond_false (by simp [Act.eval]) ?_
     refine wp_exit ?_
     simp only [Exit.inBlock,Exit.then,if_true]
     apply_assumption
     refine Met.intro ?_
     apply_assumption
     (repeat apply Exists.intro)
     refine⟨?_,rfl⟩
     exact⟨rfl,by rw [hnew]⟩
   ·have ht:Q0<a:=by omega
    by_cases hbr:b+yn1<4294967296
    ·have hnew:=gqn _ _ hP ht hbr
     clear gqb gqA gqn gqe hP
     have hbigZ:(4294967296:Int)<=(a:Int)/\(a:Int)<=4294967297:=by omega
     have hbrZ:¬(4294967296:Int)<=(b:Int)+(yn1:Int):=by omega
     have HT:Hid (Q0<a):=ht
     have HN:=(show Hid _ from hnew)
     have ha1:(1:Int)<=(a:Int):=by omega
     clear ht hnew hbr
     clear hbig b2
     go_upto_if 120 with fail
     have ht:=HT.out
     have hnew:=HN.out
     refine wp_cond_false (by simp [Act.eval]) ?_
     refine wp_skip ?_
     simp only [Exit.inBlock,Exit.then]
     apply_assumption
     refine Handed.intro (a-1) (by omega) ?_
     apply_assumption
     (repeat apply Exists.intro)
     refine⟨?_,rfl⟩
     exact⟨rfl,a-1,b+yn1,Nat.le_refl _,hnew,by congr 1;omega,by congr 1⟩
    ·have hnew:=gqe _ _ hP ht (by omega)
     clear gqb gqA gqn gqe hP
     have hbigZ:(4294967296:Int)<=(a:Int)/\(a:Int)<=4294967297:=by omega
     have hbrZ:(4294967296:Int)<=(b:Int)+(yn1:Int):=by omega
     have HT:Hid (Q0<a):=ht
     have HN:=(show Hid _ from hnew)
     have ha1:(1:Int)<=(a:Int):=by omega
     clear ht hnew hbr
     clear hbig b2
     go_upto_if 120 with fail
     have ht:=HT.out
     have hnew:=HN.out
     refine wp_cond_true (by simp [Act.eval]) ?_
     refine wp_exit ?_
     simp only [Exit.inBlock,Exit.then,show ¬(2:Nat)=3 by decide,if_false,if_true]
     apply_assumption
     refine Met.intro ?_
     apply_assumption
     (repeat apply Exists.intro)
     refine⟨?_,rfl⟩
     exact⟨rfl,by congr 1;omega⟩
 case rest =>
 obtain⟨rfl,rfl⟩:=hcut
 clear gqb gqA gqn gqe gq0 f7 f8
 go_wp2_with fail
 go_ret2
 exact⟨rfl,rfl⟩
set_option maxHeartbeats 2000000 in
theorem rootw_core (hi M top0 low0:Nat) (ex:Bool) (P:Nat->Nat->Nat->Prop) (h0:P 64 0 9223372036854775808) (hz:∀m b,P 0 m b->b=0/\m=M)
   (hs:∀j m b,P (j+1) m b->∃t top low b':Nat,((b:Int) != 0)=true/\bits .or .u64 (m:Int) (b:Int)=(t:Int)/\(b:Int)/2=(b':Int) /\
     (∀w,Calls Tryz.prog 217 #[.int .u64 t,.int .u64 t] w fun r w'=>r=.returned (.tuple #[.int .u64 top,.int .u64 low])/\w=w') /\
     ((top:Int)<(hi:Int)/\P j t b'\/¬(top:Int)<(hi:Int)/\((top:Int)==(hi:Int))=true/\((low:Int)==0)=true/\P j t b' \/
      ¬(top:Int)<(hi:Int)/\((top:Int)==(hi:Int))=true/\((low:Int)==0)=false/\P j m b'\/¬(top:Int)<(hi:Int)/\((top:Int)==(hi:Int))=false/\P j m b'))
   (hfin:∀w,Calls Tryz.prog 217 #[.int .u64 M,.int .u64 M] w fun r w'=>r=.returned (.tuple #[.int .u64 top0,.int .u64 low0])/\w=w')
   (hex:(((top0:Int)==(hi:Int))&&((low0:Int)==0))=ex) (w:World) :
   Calls Tryz.prog 288 #[.int .u64 hi] w fun r w'=>r=.returned (.tuple #[.int .u64 M,.bool ex])/\Below w.heap.size w w':=by
 go_enter Tryz.func288,Tryz.ntmps288
 go_upto_block 0 with fail
 go_cut [2,4] from 9 to 37 (fun s2 _ wx=>w=wx/\s2=.int .u64 (M:Int))
 case first =>
   clear hfin hex
   go_wp2_with fail
   go_loopg [2,4] 64 (fun g s2 s4 wx=>w=wx/\∃m b:Nat,P g m b/\s2=.int .u64 (m:Int)/\s4=.int .u64 (b:Int))
   case atStart=>exact⟨rfl,0,9223372036854775808,h0,rfl,rfl⟩
   case round =>
     obtain⟨rfl,m,b,hP,rfl,rfl⟩:=hrel
     cases gk with
     | zero =>
       obtain⟨rfl,rfl⟩:=hz _ _ hP
       clear hz hs hP h0
       go_wp2
       go_meet
       exact⟨rfl,rfl⟩
     | succ j =>
       obtain⟨t,top,low,b',r1,r2,r3,r4,r5⟩:=hs _ _ _ hP
       clear hz hs hP h0
       rcases r5 with ⟨c1,hn⟩ | ⟨c1,c2,c3,hn⟩ | ⟨c1,c2,c3,hn⟩ | ⟨c1,c2,hn⟩
       all_goals
         have HN:=(show Hid _ from hn)
         clear hn
         go_wp2_with (first | (go_at_call 217;refine (r4 _).mono ?_;rintro _ _ ⟨rfl,rfl⟩))
         go_roundg j
         case rel=>exact⟨rfl,_,b',HN.out,rfl,rfl⟩
         case measure=>omega
 case rest =>
 obtain⟨rfl,rfl⟩:=hcut
 clear h0 hz hs
 go_wp2_with (first | (go_at_call 217;refine (hfin _).mono ?_;rintro _ _ ⟨rfl,rfl⟩))
 all_goals
   go_ret2
   refine⟨?_,Below.refl _ _⟩
   rename_i h
   rw [<-hex]
   show Ending.returned (Value.tuple #[Value.int IntKind.u64 _,Value.bool _])=_
   simp [h]
def RootP (N:Nat) (j m b:Nat):Prop:=(b=if j=0 then 0 else 2^(j-1))/\m%2^j=0/\m+2^j<=18446744073709551616/\m*m<=N/\N<(m+2^j)*(m+2^j)/\j<=64
theorem rootP_start {N:Nat} (hN:N<18446744073709551616*18446744073709551616):RootP N 64 0 9223372036854775808:=by
 refine⟨rfl,by simp,by simp,by simp, ?_,Nat.le_refl _⟩
 simpa using hN
theorem rootP_or {j m:Nat} (hm:m%2^(j+1)=0):m ||| 2^j=m+2^j:=nat_join (j+1) m (2^j) hm (Nat.pow_lt_pow_right (by omega) (by omega))
theorem mod_pow_succ {j m:Nat} (hm:m%2^(j+1)=0):m%2^j=0 :=
 Nat.mod_eq_zero_of_dvd (Nat.dvd_trans (Nat.pow_dvd_pow 2 (by omega)) (Nat.dvd_of_mod_eq_zero hm))
theorem rootP_yes {N j m b:Nat} (h:RootP N (j+1) m b) (hle:(m+2^j)*(m+2^j)<=N):RootP N j (m+2^j) (b/2):=by
 obtain⟨h1,h2,h3,h4,h5,h6⟩:=h
 have e:2^(j+1)=2^j+2^j:=by rw [Nat.pow_succ];omega
 rw [e] at h3 h5
 refine⟨?_, ?_,by omega,hle,by rw [Nat.add_assoc];exact h5,by omega⟩
 ·rw [h1,if_neg (by omega),Nat.add_sub_cancel]
  cases j with
  | zero=>rfl
  | succ k=>rw [if_neg (by omega),Nat.add_sub_cancel,Nat.pow_succ];omega
 ·rw [Nat.add_mod,mod_pow_succ h2,Nat.mod_self];simp
theorem rootP_no {N j m b:Nat} (h:RootP N (j+1) m b) (hlt:N<(m+2^j)*(m+2^j)):RootP N j m (b/2):=by
 obtain⟨h1,h2,h3,h4,h5,h6⟩:=h
 have e:2^(j+1)=2^j+2^j:=by rw [Nat.pow_succ];omega
 rw [e] at h3
 refine⟨?_,mod_pow_succ h2,by omega,h4,hlt,by omega⟩
 rw [h1,if_neg (by omega),Nat.add_sub_cancel]
 cases j with
 | zero=>rfl
 | succ k=>rw [if_neg (by omega),Nat.add_sub_cancel,Nat.pow_succ];omega
def IsRoot (N M:Nat):Prop:=M*M<=N/\N<(M+1)*(M+1)
theorem isRoot_unique {N M K:Nat} (h:IsRoot N M) (k:IsRoot N K):M=K:=by
 rcases Nat.lt_trichotomy M K with l | l | l
 ·have:=Nat.mul_le_mul (show M+1<=K by omega) (show M+1<=K by omega);have:=h.2;have:=k.1;omega
 ·exact l
 ·have:=Nat.mul_le_mul (show K+1<=M by omega) (show K+1<=M by omega);have:=k.2;have:=h.1;omega
theorem rootw_w (hi M:Nat) (hh:hi<18446744073709551616) (hM:IsRoot (hi*18446744073709551616) M) (w:World) :
  Calls Tryz.prog 288 #[.int .u64 hi] w fun r w'=>r=.returned (.tuple #[.int .u64 M,.bool (decide (M*M=hi*18446744073709551616))])/\Below w.heap.size w w':=by
 have hMl:M<18446744073709551616:=by
  rcases Nat.lt_or_ge M 18446744073709551616 with h | h
  ·exact h
  ·have:=Nat.mul_le_mul h h;have:=hM.1;omega
 refine rootw_core hi M (M*M/18446744073709551616) (M*M%18446744073709551616) _ (RootP (hi*18446744073709551616)) (rootP_start (by omega)) ?_ ?_ (fun w=>mul64_w M M hMl hMl w) ?_ w
 ·intro m b h
  obtain⟨h1,h2,h3,h4,h5,h6⟩:=h
  exact⟨by simpa using h1,isRoot_unique ⟨h4,by simpa using h5⟩ hM⟩
 ·intro j m b h
  have h':=h
  obtain⟨h1,h2,h3,h4,h5,h6⟩:=h
  rw [if_neg (by omega),Nat.add_sub_cancel] at h1
  have hp:0<2^j:=Nat.two_pow_pos _
  have e:2^(j+1)=2^j+2^j:=by rw [Nat.pow_succ];omega
  have hb2:(b:Int)/2=((b/2:Nat):Int):=by omega
  have ht:m+2^j<18446744073709551616:=by omega
  refine⟨m+2^j,(m+2^j)*(m+2^j)/18446744073709551616,(m+2^j)*(m+2^j)%18446744073709551616,b/2,by simp;omega, ?_,hb2,fun w=>mul64_w _ _ ht ht w, ?_⟩
  ·rw [u64_or_nat m b (by omega) (by omega),h1,rootP_or h2]
  ·by_cases hle:(m+2^j)*(m+2^j)<=hi*18446744073709551616
   ·have hP:=rootP_yes h' hle
    generalize (m+2^j)*(m+2^j)=X at *
    by_cases c1:X/18446744073709551616<hi
    ·exact Or.inl ⟨by omega,hP⟩
    ·exact Or.inr (Or.inl ⟨by omega,by simp;omega,by simp;omega,hP⟩)
   ·have hP:=rootP_no h' (by omega)
    generalize (m+2^j)*(m+2^j)=X at *
    by_cases c1:X/18446744073709551616=hi
    ·exact Or.inr (Or.inr (Or.inl ⟨by omega,by simp;omega,by simp;omega,hP⟩))
    ·exact Or.inr (Or.inr (Or.inr ⟨by omega,by simp;omega,hP⟩))
 ·generalize M*M=X
  rw [Bool.eq_iff_iff]
  simp only [Bool.and_eq_true,beq_iff_eq,decide_eq_true_eq]
  omega
end Go.Proofs.YtopfabemfbdccaaGreat
