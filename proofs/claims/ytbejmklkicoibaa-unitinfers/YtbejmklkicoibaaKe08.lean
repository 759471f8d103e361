/- The reference's numbers of stage 11: which may be, quotients of whole numbers. The program's quotients (rat): what is made of two amounts; what has grown; turned round; which may be. The program's quotients (rat): what has grown; turned round; which may be. -/
import Derived.Test.YtbejmklkicoibaaKe07
import Derived.Deep.RegionHeld3
import Derived.Test.YtbejmklkicoibaaKe03
namespace Go.Proofs.Ytbejmklkicoibaa
open Go.ChangeShapes Go.WideShapes Go.ChangeAt Go.RowKit
theorem Rt2.c0 {w:World} {b:Nat} {x y:Value} (h:Rt2 w b x y):w.cell? ⟨b,0,none⟩=some x:=h.1
theorem Rt2.c1 {w:World} {b:Nat} {x y:Value} (h:Rt2 w b x y):w.cell? ⟨b,1,none⟩=some y:=h.2.1
def rightR (N D:Int):Bool:=decide (1<=D)&&(decide (N≠-9223372036854775808)&&decide (Nat.gcd N.natAbs D.natAbs=1))
def I64 (n:Int):Prop:=-9223372036854775808<=n/\n<=9223372036854775807
theorem I64.lt {n:Int} (h:I64 n):n.natAbs<2^64:=by
 obtain⟨h1,h2⟩:=h
 omega
theorem cmpN_one (g:Nat):(cmpN g 1==0)=decide (g=1):=by
 unfold cmpN
 by_cases c:g=1
 ·subst c;rfl
 ·rw [decide_eq_false c]
  split
  ·rfl
  ·split
   ·rfl
   ·omega
set_option maxHeartbeats 4000000 in
theorem right11_w (N D:Int) (hN:I64 N) (hD:I64 D) (w:World) :
  Calls Try.prog 42 #[.agg #[.int .i64 N,.int .i64 D]] w fun r w'=>r=.returned (.bool (rightR N D))/\Below w.heap.size w w':=by
 have X:=rat_new w (.int .i64 N) (.int .i64 D) 27
 have HB:Below w.heap.size w (w.alloc (.cells #[.int .i64 N,.int .i64 D] 27)):=by go_grown
 obtain⟨x0,x1,x2,x3,x4⟩:=id X
 by_cases c1:1<=D
 ·by_cases c2:N=-9223372036854775808
  ·have e:rightR N D=false:=by unfold rightR;rw [decide_eq_false (show ¬N≠-9223372036854775808 from fun q=>q c2)];simp
   rw [e]
   clear e
   subst c2
   go_enter Try.func42,Try.ntmps42
   go_upto_region 1 with fail
   generalize (w.alloc (.cells #[.int .i64 (-9223372036854775808),.int .i64 D] 27))=V1 at *
   go_quiet (fail)
   go_wp2_with fail
   go_ret
   exact⟨by simp,below_drewN HB _⟩
  ·have cs1:=fun W=>size_w N hN.1 hN.2 W
   have cs2:=fun W=>size_w D hD.1 hD.2 W
   have l1:=hN.lt
   have l2:=hD.lt
   obtain⟨K,hK⟩:∃K:Nat,K=64:=⟨_,rfl⟩
   rw [<-hK] at l1 l2
   have e:rightR N D=(cmpN (Nat.gcd N.natAbs D.natAbs) 1==0):=by unfold rightR;rw [cmpN_one,decide_eq_true c1,decide_eq_true (show N≠-9223372036854775808 from c2)];simp
   rw [e]
   have cg:=fun W o1 k1 c1 o2 k2 c2 (p:BigIs W (.slice o1 k1 c1) N.natAbs) (q:BigIs W (.slice o2 k2 c2) D.natAbs)=>common_w N.natAbs D.natAbs K (by omega) l1 l2 W p q
   have hg:Nat.gcd N.natAbs D.natAbs<2^K:=Nat.lt_of_le_of_lt (Nat.gcd_le_right _ (by omega)) l2
   have cc:=fun W v1 v2 (p:BigIs W v1 (Nat.gcd N.natAbs D.natAbs)) (q:BigIs W v2 1)=>cmp_w v1 v2 (Nat.gcd N.natAbs D.natAbs) 1 K (by omega) hg (Nat.lt_of_lt_of_le (show 1<2^1 by decide) (Nat.pow_le_pow_right (by omega) (by omega))) W p q
   have c11:=one_w
   have d2:(N != -9223372036854775808)=true:=by simpa using c2
   clear e l1 l2 hg hK hN hD c2
   generalize N.natAbs=n at *
   generalize D.natAbs=d at *
   generalize cmpN (Nat.gcd n d) 1=y at *
   generalize Nat.gcd n d=g at *
   go_enter Try.func42,Try.ntmps42
   go_upto_region 1 with fail
   generalize (w.alloc (.cells #[.int .i64 N,.int .i64 D] 27))=V1 at *
   have HD:Below V1.heap.size V1 V1.drew:=(Below.refl _ _).drew
   replace X:=X.keep HD
   replace HB:=later HB HD
   clear HD x0 x1 x2 x3 x4
   go_region_held3 (fun w'=>w'.cell? ⟨w.heap.size,0,none⟩=some (.int .i64 N)/\w'.cell? ⟨w.heap.size,1,none⟩=some (.int .i64 D)) (first | with_reducible exact⟨X.c0,X.c1⟩ | go_keep)
    (first
     | (go_at_call_of 68 (Value.int .i64 N);(with_reducible refine (cs1 _).mono ?_);rintro _ W1 ⟨⟨v1,rfl,A⟩,hb1⟩;obtain⟨o1,k1,u1,rfl, -⟩:=A.shape;replace X:=X.keep hb1;replace HB:=later HB hb1;clear hb1)
     | (go_at_call_of 68 (Value.int .i64 D);(with_reducible refine (cs2 _).mono ?_);rintro _ W2 ⟨⟨v2,rfl,B⟩,hb1⟩;obtain⟨o2,k2,u2,rfl, -⟩:=B.shape;replace A:=A.keep hb1;replace X:=X.keep hb1;replace HB:=later HB hb1;clear hb1)
     | (go_at_call 67;(with_reducible refine (cg _ _ _ _ _ _ _ A B).mono ?_);rintro _ W3 ⟨⟨v3,rfl,G⟩,hb1⟩;obtain⟨o3,k3,u3,rfl, -⟩:=G.shape;replace X:=X.keep hb1;replace HB:=later HB hb1;clear hb1)
     | (go_at_call 69;(with_reducible refine (c11 _).mono ?_);rintro _ W4 ⟨⟨v4,rfl,O⟩,hb1⟩;obtain⟨o4,k4,u4,rfl, -⟩:=O.shape;replace G:=G.keep hb1;replace X:=X.keep hb1;replace HB:=later HB hb1;clear hb1)
     | (go_at_call 66;(with_reducible refine (cc _ _ _ G O).mono ?_);rintro _ W5 ⟨rfl,hb1⟩;replace X:=X.keep hb1;replace HB:=later HB hb1;clear hb1))
   all_goals
    go_wp2_with fail
    go_ret
    exact⟨by simp,HB⟩
 ·have e:rightR N D=false:=by unfold rightR;rw [decide_eq_false c1];rfl
  rw [e]
  have d1:decide (1<=D)=false:=decide_eq_false c1
  clear e
  go_enter Try.func42,Try.ntmps42
  go_upto_region 1 with fail
  generalize (w.alloc (.cells #[.int .i64 N,.int .i64 D] 27))=V1 at *
  go_quiet (fail)
  go_wp2_with fail
  go_ret
  exact⟨by simp,below_drewN HB _⟩
def numR (n:Int):Nm:=⟨decide (n<0),n.natAbs,0⟩
set_option maxHeartbeats 4000000 in
theorem num11_w (n:Int) (hn:I64 n) (w:World) :
  Calls Try.prog 87 #[.int .i64 n] w fun r w'=>(∃v,r=.returned v/\NI w' v (numR n))/\Below w.heap.size w w':=by
 have R:Has3 (w.alloc (.cells #[.bool false,.slice none 0 0,.int .i64 0] 125)) w.heap.size (.bool false) (.slice none 0 0) (.int .i64 0):=⟨by go_simp,by go_simp,by go_simp,by go_simp,by go_simp,by go_simp,by go_size⟩
 have B:=Boxed.new w #[.bool false,.slice none 0 0,.int .i64 0]
 have HB:Below w.heap.size w (w.alloc (.cells #[.bool false,.slice none 0 0,.int .i64 0] 125)):=by go_grown
 have cs:=fun W=>size_w n hn.1 hn.2 W
 unfold numR
 generalize n.natAbs=m at *
 clear hn
 go_enter Try.func87,Try.ntmps87
 go_wp2_with (go_at_call 68;(with_reducible refine (cs _).mono ?_);rintro _ W1 ⟨⟨v1,rfl,A⟩,hb1⟩;obtain⟨o1,k1,u1,rfl, -⟩:=A.shape;replace R:=R.keep hb1;replace B:=B.keep hb1;replace HB:=later HB hb1;clear hb1;obtain⟨r0,r1,r2,r3,r4,r5,r6⟩:=id R)
 refine bodyPost_ret (v:=.agg #[.bool (decide (n<0)),.slice o1 k1 u1,.int .i64 0]) (by simp [results,Try.results87,go_sem, *]) rfl ⟨⟨_,rfl,.slice o1 k1 u1,rfl, ?_⟩, ?_⟩
 ·repeat' (first | (with_reducible exact A) | (with_reducible exact B) | (with_reducible refine BigIs.put ?_ ?_ _ _) | (with_reducible refine Boxed.set ?_ _ _ _))
 ·repeat' (first | (with_reducible exact HB) | (with_reducible refine Below.setCell ?_ ?_ _) | go_size)
def mdV (g:Bool) (nh nl dh dl:Nat):Int×Int×Int:=if (decide (nh=0)&&decide (nl<=9223372036854775807))&&(decide (dh=0)&&decide (dl<=9223372036854775807)) then (sgnd g nl,(dl:Int),0) else (0,0,3)
set_option maxHeartbeats 1000000 in
theorem made_no (g:Bool) (nh nl dh dl:Nat) (b1 b2:Bool) (hb:(b1&&b2)=false)
  (c1:∀W,Calls Try.prog 103 #[.agg #[.int .u64 (nh:Int),.int .u64 (nl:Int)]] W fun r w'=>r=.returned (.bool b1)/\Below W.heap.size W w')
  (c2:∀W,Calls Try.prog 103 #[.agg #[.int .u64 (dh:Int),.int .u64 (dl:Int)]] W fun r w'=>r=.returned (.bool b2)/\Below W.heap.size W w') (w:World) :
  Calls Try.prog 96 #[.bool g,.agg #[.int .u64 (nh:Int),.int .u64 (nl:Int)],.agg #[.int .u64 (dh:Int),.int .u64 (dl:Int)]] w fun r w'=>r=.returned (.tuple #[.agg #[.int .i64 0,.int .i64 0],.int .i64 3])/\Below w.heap.size w w':=by
 have HB:Below w.heap.size w (((w.alloc (.cells #[.int .u64 (nh:Int),.int .u64 (nl:Int)] 133)).alloc (.cells #[.int .u64 (dh:Int),.int .u64 (dl:Int)] 133)).alloc (.cells #[.int .i64 0,.int .i64 0] 27)):=by go_grown
 have X:Has2 (((w.alloc (.cells #[.int .u64 (nh:Int),.int .u64 (nl:Int)] 133)).alloc (.cells #[.int .u64 (dh:Int),.int .u64 (dl:Int)] 133)).alloc (.cells #[.int .i64 0,.int .i64 0] 27)) w.heap.size (.int .u64 (nh:Int)) (.int .u64 (nl:Int)):=⟨by go_simp,by go_simp,by go_simp,by go_simp,by go_size⟩
 have Y:Has2 (((w.alloc (.cells #[.int .u64 (nh:Int),.int .u64 (nl:Int)] 133)).alloc (.cells #[.int .u64 (dh:Int),.int .u64 (dl:Int)] 133)).alloc (.cells #[.int .i64 0,.int .i64 0] 27)) (w.heap.size+1) (.int .u64 (dh:Int)) (.int .u64 (dl:Int)):=⟨by go_simp,by go_simp,by go_simp,by go_simp,by go_size⟩
 have Z:Has2 (((w.alloc (.cells #[.int .u64 (nh:Int),.int .u64 (nl:Int)] 133)).alloc (.cells #[.int .u64 (dh:Int),.int .u64 (dl:Int)] 133)).alloc (.cells #[.int .i64 0,.int .i64 0] 27)) (w.heap.size+1+1) (.int .i64 0) (.int .i64 0):=⟨by go_simp,by go_simp,by go_simp,by go_simp,by go_size⟩
 go_enter Try.func96,Try.ntmps96
 go_upto_region 1 with fail
 generalize (((w.alloc (.cells #[.int .u64 (nh:Int),.int .u64 (nl:Int)] 133)).alloc (.cells #[.int .u64 (dh:Int),.int .u64 (dl:Int)] 133)).alloc (.cells #[.int .i64 0,.int .i64 0] 27))=V1 at *
 obtain⟨x0,x1,x2,x3,x4⟩:=id X
 cases b1
 ·go_wp2_with (go_at_call_of 103 (Value.agg #[.int .u64 (nh:Int),.int .u64 (nl:Int)]);(with_reducible refine (c1 _).mono ?_);rintro _ W1 ⟨rfl,hb1⟩;replace Z:=Z.keep hb1;replace HB:=later HB hb1;clear hb1;obtain⟨z0,z1,z2,z3,z4⟩:=id Z)
  refine bodyPost_ret (v:=.tuple #[.agg #[.int .i64 0,.int .i64 0],.int .i64 3]) (by simp [results,Try.results96,go_sem, *]) rfl ⟨rfl, ?_⟩
  repeat' (first | (with_reducible exact HB) | (with_reducible refine Below.setCell ?_ ?_ _) | go_size)
 ·cases b2
  ·go_wp2_with (first
    | (go_at_call_of 103 (Value.agg #[.int .u64 (nh:Int),.int .u64 (nl:Int)]);(with_reducible refine (c1 _).mono ?_);rintro _ W1 ⟨rfl,hb1⟩;replace Y:=Y.keep hb1;replace Z:=Z.keep hb1;replace HB:=later HB hb1;clear hb1;obtain⟨y0,y1,y2,y3,y4⟩:=id Y)
    | (go_at_call_of 103 (Value.agg #[.int .u64 (dh:Int),.int .u64 (dl:Int)]);(with_reducible refine (c2 _).mono ?_);rintro _ W2 ⟨rfl,hb1⟩;replace Z:=Z.keep hb1;replace HB:=later HB hb1;clear hb1;obtain⟨z0,z1,z2,z3,z4⟩:=id Z))
   refine bodyPost_ret (v:=.tuple #[.agg #[.int .i64 0,.int .i64 0],.int .i64 3]) (by simp [results,Try.results96,go_sem, *]) rfl ⟨rfl, ?_⟩
   repeat' (first | (with_reducible exact HB) | (with_reducible refine Below.setCell ?_ ?_ _) | go_size)
  ·cases hb
set_option maxHeartbeats 1000000 in
theorem made_yes (g:Bool) (nh nl dh dl:Nat) (q:Int) (hq:q=sgnd g nl) (l1:nl<=9223372036854775807) (l2:dl<=9223372036854775807)
  (c1:∀W,Calls Try.prog 103 #[.agg #[.int .u64 (nh:Int),.int .u64 (nl:Int)]] W fun r w'=>r=.returned (.bool true)/\Below W.heap.size W w')
  (c2:∀W,Calls Try.prog 103 #[.agg #[.int .u64 (dh:Int),.int .u64 (dl:Int)]] W fun r w'=>r=.returned (.bool true)/\Below W.heap.size W w') (w:World) :
  Calls Try.prog 96 #[.bool g,.agg #[.int .u64 (nh:Int),.int .u64 (nl:Int)],.agg #[.int .u64 (dh:Int),.int .u64 (dl:Int)]] w fun r w'=>r=.returned (.tuple #[.agg #[.int .i64 q,.int .i64 (dl:Int)],.int .i64 0])/\Below w.heap.size w w':=by
 have HB:Below w.heap.size w (((w.alloc (.cells #[.int .u64 (nh:Int),.int .u64 (nl:Int)] 133)).alloc (.cells #[.int .u64 (dh:Int),.int .u64 (dl:Int)] 133)).alloc (.cells #[.int .i64 0,.int .i64 0] 27)):=by go_grown
 have X:Has2 (((w.alloc (.cells #[.int .u64 (nh:Int),.int .u64 (nl:Int)] 133)).alloc (.cells #[.int .u64 (dh:Int),.int .u64 (dl:Int)] 133)).alloc (.cells #[.int .i64 0,.int .i64 0] 27)) w.heap.size (.int .u64 (nh:Int)) (.int .u64 (nl:Int)):=⟨by go_simp,by go_simp,by go_simp,by go_simp,by go_size⟩
 have Y:Has2 (((w.alloc (.cells #[.int .u64 (nh:Int),.int .u64 (nl:Int)] 133)).alloc (.cells #[.int .u64 (dh:Int),.int .u64 (dl:Int)] 133)).alloc (.cells #[.int .i64 0,.int .i64 0] 27)) (w.heap.size+1) (.int .u64 (dh:Int)) (.int .u64 (dl:Int)):=⟨by go_simp,by go_simp,by go_simp,by go_simp,by go_size⟩
 have Z:Has2 (((w.alloc (.cells #[.int .u64 (nh:Int),.int .u64 (nl:Int)] 133)).alloc (.cells #[.int .u64 (dh:Int),.int .u64 (dl:Int)] 133)).alloc (.cells #[.int .i64 0,.int .i64 0] 27)) (w.heap.size+1+1) (.int .i64 0) (.int .i64 0):=⟨by go_simp,by go_simp,by go_simp,by go_simp,by go_size⟩
 have e1:IntKind.i64.wrap (nl:Int)=(nl:Int):=by rw [IntKind.wrap_i64];omega
 have e2:IntKind.i64.wrap (dl:Int)=(dl:Int):=by rw [IntKind.wrap_i64];omega
 have e3:IntKind.i64.wrap (-(nl:Int))=-(nl:Int):=by rw [IntKind.wrap_i64];omega
 go_enter Try.func96,Try.ntmps96
 go_upto_region 1 with fail
 generalize (((w.alloc (.cells #[.int .u64 (nh:Int),.int .u64 (nl:Int)] 133)).alloc (.cells #[.int .u64 (dh:Int),.int .u64 (dl:Int)] 133)).alloc (.cells #[.int .i64 0,.int .i64 0] 27))=V1 at *
 obtain⟨x0,x1,x2,x3,x4⟩:=id X
 cases g
 ·have hq':q=(nl:Int):=hq
  subst hq'
  clear hq
  go_wp2_with (first
    | (go_at_call_of 103 (Value.agg #[.int .u64 (nh:Int),.int .u64 (nl:Int)]);(with_reducible refine (c1 _).mono ?_);rintro _ W1 ⟨rfl,hb1⟩;replace X:=X.keep hb1;replace Y:=Y.keep hb1;replace Z:=Z.keep hb1;replace HB:=later HB hb1;clear hb1;obtain⟨y0,y1,y2,y3,y4⟩:=id Y)
    | (go_at_call_of 103 (Value.agg #[.int .u64 (dh:Int),.int .u64 (dl:Int)]);(with_reducible refine (c2 _).mono ?_);rintro _ W2 ⟨rfl,hb1⟩;replace X:=X.keep hb1;replace Y:=Y.keep hb1;replace Z:=Z.keep hb1;replace HB:=later HB hb1;clear hb1;obtain⟨z0,z1,z2,z3,z4⟩:=id Z;obtain⟨s0,s1,s2,s3,s4⟩:=id X;obtain⟨t0,t1,t2,t3,t4⟩:=id Y))
  refine bodyPost_ret (v:=.tuple #[.agg #[.int .i64 (nl:Int),.int .i64 (dl:Int)],.int .i64 0]) (by simp [results,Try.results96,go_sem, *]) rfl ⟨rfl, ?_⟩
  refine later (W0:=(W2.setCell ⟨w.heap.size+1+1,0,none⟩ (.int .i64 (nl:Int))).setCell ⟨w.heap.size+1+1,1,none⟩ (.int .i64 (dl:Int))) ?_ (by go_grown)
  repeat' (first | (with_reducible exact HB) | (with_reducible refine Below.setCell ?_ ?_ _) | go_size)
 ·have hq':q=-(nl:Int):=hq
  subst hq'
  clear hq
  go_wp2_with (first
    | (go_at_call_of 103 (Value.agg #[.int .u64 (nh:Int),.int .u64 (nl:Int)]);(with_reducible refine (c1 _).mono ?_);rintro _ W1 ⟨rfl,hb1⟩;replace X:=X.keep hb1;replace Y:=Y.keep hb1;replace Z:=Z.keep hb1;replace HB:=later HB hb1;clear hb1;obtain⟨y0,y1,y2,y3,y4⟩:=id Y)
    | (go_at_call_of 103 (Value.agg #[.int .u64 (dh:Int),.int .u64 (dl:Int)]);(with_reducible refine (c2 _).mono ?_);rintro _ W2 ⟨rfl,hb1⟩;replace X:=X.keep hb1;replace Y:=Y.keep hb1;replace Z:=Z.keep hb1;replace HB:=later HB hb1;clear hb1;obtain⟨z0,z1,z2,z3,z4⟩:=id Z;obtain⟨s0,s1,s2,s3,s4⟩:=id X;obtain⟨t0,t1,t2,t3,t4⟩:=id Y))
  refine bodyPost_ret (v:=.tuple #[.agg #[.int .i64 (-(nl:Int)),.int .i64 (dl:Int)],.int .i64 0]) (by simp [results,Try.results96,go_sem, *]) rfl ⟨rfl, ?_⟩
  refine later (W0:=(W2.setCell ⟨w.heap.size+1+1,0,none⟩ (.int .i64 (-(nl:Int)))).setCell ⟨w.heap.size+1+1,1,none⟩ (.int .i64 (dl:Int))) ?_ (by go_grown)
  repeat' (first | (with_reducible exact HB) | (with_reducible refine Below.setCell ?_ ?_ _) | go_size)
theorem made_w (g:Bool) (nh nl dh dl:Nat) (w:World) :
  Calls Try.prog 96 #[.bool g,.agg #[.int .u64 (nh:Int),.int .u64 (nl:Int)],.agg #[.int .u64 (dh:Int),.int .u64 (dl:Int)]] w fun r w'=>r=.returned (.tuple #[.agg #[.int .i64 (mdV g nh nl dh dl).1,.int .i64 (mdV g nh nl dh dl).2.1],.int .i64 (mdV g nh nl dh dl).2.2])/\Below w.heap.size w w':=by
 have c1:=fun W=>wroom_w nh nl W
 have c2:=fun W=>wroom_w dh dl W
 by_cases c:((decide (nh=0)&&decide (nl<=9223372036854775807))&&(decide (dh=0)&&decide (dl<=9223372036854775807)))=true
 ·have e:mdV g nh nl dh dl=(sgnd g nl,(dl:Int),0):=by unfold mdV;rw [if_pos c]
  rw [e]
  obtain⟨k1,k2⟩:=Bool.and_eq_true_iff.1 c
  rw [k1] at c1
  rw [k2] at c2
  have m1:=(Bool.and_eq_true_iff.1 k1).2
  have m2:=(Bool.and_eq_true_iff.1 k2).2
  exact made_yes g nh nl dh dl _ rfl (of_decide_eq_true m1) (of_decide_eq_true m2) c1 c2 w
 ·have e:mdV g nh nl dh dl=(0,0,3):=by unfold mdV;rw [if_neg c]
  rw [e]
  exact made_no g nh nl dh dl _ _ (by simpa using c) c1 c2 w
theorem sg_room {h l F:Nat} (S:Sg h l (F:Int)) (hF:F<340282366920938463463374607431768211456):(decide (h=0)&&decide (l<=9223372036854775807))=decide (F<9223372036854775808)/\(F<9223372036854775808->h=0/\l=F):=by
 have hn:=S.nat (by omega) (by omega)
 obtain⟨s1,s2, -⟩:=S
 by_cases c:F<9223372036854775808
 ·have e1:h=0:=by omega
  have e2:l=F:=by omega
  refine⟨?_,fun _=>⟨e1,e2⟩⟩
  rw [decide_eq_true c,decide_eq_true e1,decide_eq_true (by omega)]
  rfl
 ·refine⟨?_,fun q=>absurd q c⟩
  rw [decide_eq_false c]
  by_cases e1:h=0
  ·rw [decide_eq_true e1,decide_eq_false (by omega)];rfl
  ·rw [decide_eq_false e1];rfl
def tuR (N D:Int):Int×Int:=if N<0 then (-D, -N) else (D,N)
theorem turned_w (N D:Int) (hN:-9223372036854775807<=N/\N<=9223372036854775807) (hD:-9223372036854775807<=D/\D<=9223372036854775807) (w:World) :
  Calls Try.prog 79 #[.agg #[.int .i64 N,.int .i64 D]] w fun r w'=>r=.returned (.agg #[.int .i64 (tuR N D).1,.int .i64 (tuR N D).2])/\Below w.heap.size w w':=by
 by_cases c:N<0
 ·have e:tuR N D=(-D, -N):=by unfold tuR;rw [if_pos c]
  rw [e]
  have e1:IntKind.i64.wrap (-N)=-N:=by rw [IntKind.wrap_i64];omega
  have e2:IntKind.i64.wrap (-D)=-D:=by rw [IntKind.wrap_i64];omega
  clear e
  go_enter Try.func79,Try.ntmps79
  go_wp2_with fail
  refine bodyPost_ret (v:=.agg #[.int .i64 (-D),.int .i64 (-N)]) (by simp [results,Try.results79,go_sem, *]) rfl ⟨rfl, ?_⟩
  go_grown
 ·have e:tuR N D=(D,N):=by unfold tuR;rw [if_neg c]
  rw [e]
  clear e
  go_enter Try.func79,Try.ntmps79
  go_wp2_with fail
  refine bodyPost_ret (v:=.agg #[.int .i64 D,.int .i64 N]) (by simp [results,Try.results79,go_sem, *]) rfl ⟨rfl, ?_⟩
  go_grown
set_option maxHeartbeats 1000000 in
theorem rright_w11 (N D:Int) (hN:I64 N) (hD:I64 D) (w:World) :
  Calls Try.prog 28 #[.agg #[.int .i64 N,.int .i64 D]] w fun r w'=>r=.returned (.bool (rightR N D))/\Below w.heap.size w w':=by
 have X:=has2_new w (.int .i64 N) (.int .i64 D) 27
 have HB:Below w.heap.size w (w.alloc (.cells #[.int .i64 N,.int .i64 D] 27)):=by go_grown
 obtain⟨x0,x1,x2,x3,x4⟩:=id X
 by_cases c1:1<=D
 ·by_cases c2:N=-9223372036854775808
  ·have e:rightR N D=false:=by unfold rightR;rw [decide_eq_false (show ¬N≠-9223372036854775808 from fun q=>q c2)];simp
   rw [e]
   clear e
   subst c2
   go_enter Try.func28,Try.ntmps28
   go_upto_region 1 with fail
   generalize (w.alloc (.cells #[.int .i64 (-9223372036854775808),.int .i64 D] 27))=V1 at *
   go_quiet (fail)
   go_wp2_with fail
   go_ret
   exact⟨by simp,below_drewN HB _⟩
  ·have c2':-9223372036854775807<=N:=by have:=hN.1;omega
   have ca:=fun W=>ramount_w N hN.1 hN.2 W
   have cb:=fun W=>ramount_w D hD.1 hD.2 W
   have cg:=fun W=>rdivisor_w N.natAbs D.natAbs W
   have e:rightR N D=decide (Nat.gcd N.natAbs D.natAbs=1):=by unfold rightR;rw [decide_eq_true c1,decide_eq_true (show N≠-9223372036854775808 from c2)];simp
   rw [e]
   have e2:(((Nat.gcd N.natAbs D.natAbs:Nat):Int)==1)=decide (Nat.gcd N.natAbs D.natAbs=1):=by
    by_cases q:Nat.gcd N.natAbs D.natAbs=1
    ·rw [decide_eq_true q]
     have:((Nat.gcd N.natAbs D.natAbs:Nat):Int)=1:=by omega
     rw [beq_iff_eq];exact this
    ·rw [decide_eq_false q]
     have:¬((Nat.gcd N.natAbs D.natAbs:Nat):Int)=1:=by omega
     exact beq_eq_false_iff_ne.2 this
   have d1:decide (1<=D)=true:=decide_eq_true c1
   have d2:decide (-9223372036854775807<=N)=true:=decide_eq_true c2'
   clear e c2 hN hD
   generalize N.natAbs=n at *
   generalize D.natAbs=d at *
   generalize decide (Nat.gcd n d=1)=b at *
   generalize Nat.gcd n d=g at *
   go_enter Try.func28,Try.ntmps28
   go_upto_region 1 with fail
   generalize (w.alloc (.cells #[.int .i64 N,.int .i64 D] 27))=V1 at *
   have k0:=fun n:Behind V1=>n.cell X.1 X.2.2.2.2
   have k1:=fun n:Behind V1=>n.cell X.2.1 X.2.2.2.2
   clear x0 x1 x2 x3 x4
   refine region_behind (by kernel_rfl) (by kernel_rfl) ?_
   repeat (go_big_quiet_step (first
    | (go_at_call_of 54 (Value.int .i64 N);with_reducible refine Behind.same (ca _))
    | (go_at_call_of 54 (Value.int .i64 D);with_reducible refine Behind.same (cb _))
    | (go_at_call 53;with_reducible refine Behind.call (cg _))))
   refine wpQuiet_nil ?_
   rintro _ ⟨m',rfl⟩
   obtain⟨W,hb1⟩:=m'
   dsimp only
   go_wp2_with fail
   go_ret
   exact⟨rfl,later HB hb1⟩
 ·have e:rightR N D=false:=by unfold rightR;rw [decide_eq_false c1];rfl
  rw [e]
  clear e
  go_enter Try.func28,Try.ntmps28
  go_upto_region 1 with fail
  generalize (w.alloc (.cells #[.int .i64 N,.int .i64 D] 27))=V1 at *
  go_quiet (fail)
  go_wp2_with fail
  go_ret
  exact⟨by simp,below_drewN HB _⟩
end Go.Proofs.Ytbejmklkicoibaa
