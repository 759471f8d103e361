/- The reference's numbers between two: part, over, Around. The reference's numbers between two: Of, Int, Shift, Around. -/
import Derived.Test.YtopfabemfbdccaaGreatZe13
import Derived.Test.YtopfabemfbdccaaGreatZe17
import Derived.Test.YtopfabemfbdccaaGreatZe16
namespace Go.Proofs.YtopfabemfbdccaaGreat
open Go.ChangeShapes Go.WideShapes Go.ChangeAt Go.RowKit
theorem part_m {w:World} {x:Value} {a:Nm} (ha:NI w x a) (sa:Sm a) (nz:a.m≠0) (hb:bitsN a.m≤224) (k:Nat) (hk:0<k) (hk2:k<1073741824) (lo:Bool) :
   Calls Tryz.prog 208 #[x,.int .i64 (k:Int),.int .i64 (dirZ lo)] w fun r w'=>(∃v,r=.returned v∧NI w' v (partX a k lo))∧Below w.heap.size w w':=by
 obtain⟨ao,l,ca,rfl,hl,a2⟩:=ha.shape
 obtain⟨g,m,e⟩:=a
 obtain⟨p1,p2,p3⟩:=sa
 unfold partX
 simp only at *
 have hup:upN m=224-bitsN m:=if_neg nz
 rw [hup]
 have hl0:((l:Int)==0)=false:=by rw [beq_eq_false_iff_ne];intro c;exact nz (hl.1 (by omega))
 obtain⟨K,hK⟩:∃K:Nat,K=2000:=⟨_,rfl⟩
 rw [←hK] at p1
 obtain⟨J,hJ⟩:∃J:Nat,J=224:=⟨_,rfl⟩
 have hR:m*2^(224-bitsN m)<2^(K+J):=by
   rw [Nat.pow_add]
   exact Nat.lt_of_lt_of_le (Nat.mul_lt_mul_of_pos_right p1 (Nat.two_pow_pos _)) (Nat.mul_le_mul_left _ (Nat.pow_le_pow_right (by omega) (by omega)))
 have cb:=fun W (hW:Below w.heap.size w W)=>bits_w (.slice ao l ca) m K (by omega) p1 W (a2.keep hW)
 have cl:=fun W (hW:Below w.heap.size w W)=>left_w (.slice ao l ca) m (224-bitsN m) ((224-bitsN m)/32) ((224-bitsN m)%32) K (by omega) p1 (by omega) (by omega) (by omega) W (a2.keep hW)
 refine (part_core (by omega) lo _ rfl k hk hk2 (224-bitsN m) _ (by omega) (bitsN m:Int) w hl0 (by omega) cb cl (K+J) (by omega) hR).mono ?_
 rintro _ w' ⟨⟨v,rfl,hv⟩,hb⟩
 exact⟨⟨_,rfl,v,rfl,hv⟩,hb⟩
theorem part_lo {w:World} {x:Value} {a:Nm} (ha:NI w x a) (sa:Sm a) (nz:a.m≠0) (hb:bitsN a.m≤224) (k:Nat) (hk:0<k) (hk2:k<1073741824) :
   Calls Tryz.prog 208 #[x,.int .i64 (k:Int),.int .i64 (-1)] w fun r w'=>(∃v,r=.returned v∧NI w' v (partX a k true))∧Below w.heap.size w w':=part_m ha sa nz hb k hk hk2 true
theorem part_hi {w:World} {x:Value} {a:Nm} (ha:NI w x a) (sa:Sm a) (nz:a.m≠0) (hb:bitsN a.m≤224) (k:Nat) (hk:0<k) (hk2:k<1073741824) :
   Calls Tryz.prog 208 #[x,.int .i64 (k:Int),.int .i64 1] w fun r w'=>(∃v,r=.returned v∧NI w' v (partX a k false))∧Below w.heap.size w w':=part_m ha sa nz hb k hk hk2 false
def overX (x:Pr) (k:Nat):Pr:=⟨partX x.a k true,partX x.b k false⟩
set_option maxHeartbeats 1600000 in
theorem over_m {w:World} {vx:Value} {x:Pr} (hx:PI w vx x) (sx:SmP x) (z0:x.a.m≠0) (z1:x.b.m≠0) (b0:bitsN x.a.m≤224) (b1:bitsN x.b.m≤224) (k:Nat) (hk:0<k) (hk2:k<1073741824) :
   Calls Tryz.prog 140 #[vx,.int .i64 (k:Int)] w fun r w'=>(∃v,r=.returned v∧PI w' v (overX x k))∧Below w.heap.size w w':=by
 obtain⟨xo0,xl0,xc0,xo1,xl1,xc1,rfl,xn0,xn1⟩:=hx.shape
 unfold overX
 obtain⟨sx0,sx1⟩:=sx
 have Xx:=(hs6_new w (.bool x.a.g) (.slice xo0 xl0 xc0) (.int .i64 x.a.e) (.bool x.b.g) (.slice xo1 xl1 xc1) (.int .i64 x.b.e) 31).alloc (.cells #[.bool false,.slice none 0 0,.int .i64 0,.bool false,.slice none 0 0,.int .i64 0] 31)
 have R:=hs6_new (w.alloc (.cells #[.bool x.a.g,.slice xo0 xl0 xc0,.int .i64 x.a.e,.bool x.b.g,.slice xo1 xl1 xc1,.int .i64 x.b.e] 31)) (.bool false) (.slice none 0 0) (.int .i64 0) (.bool false) (.slice none 0 0) (.int .i64 0) 31
 have B:=Boxed.newP (w.alloc (.cells #[.bool x.a.g,.slice xo0 xl0 xc0,.int .i64 x.a.e,.bool x.b.g,.slice xo1 xl1 xc1,.int .i64 x.b.e] 31)) #[.bool false,.slice none 0 0,.int .i64 0,.bool false,.slice none 0 0,.int .i64 0]
 have HB:Below w.heap.size w ((w.alloc (.cells #[.bool x.a.g,.slice xo0 xl0 xc0,.int .i64 x.a.e,.bool x.b.g,.slice xo1 xl1 xc1,.int .i64 x.b.e] 31)).alloc (.cells #[.bool false,.slice none 0 0,.int .i64 0,.bool false,.slice none 0 0,.int .i64 0] 31)):=by go_grown
 replace xn0:=xn0.keep HB
 replace xn1:=xn1.keep HB
 simp only [World.size_alloc] at R B
 go_enter Tryz.func140,Tryz.ntmps140
 go_upto_region 1 with fail
 generalize ((w.alloc (.cells #[.bool x.a.g,.slice xo0 xl0 xc0,.int .i64 x.a.e,.bool x.b.g,.slice xo1 xl1 xc1,.int .i64 x.b.e] 31)).alloc (.cells #[.bool false,.slice none 0 0,.int .i64 0,.bool false,.slice none 0 0,.int .i64 0] 31))=V1 at *
 have HD:Below V1.heap.size V1 V1.drew:=(Below.refl _ _).drew
 replace Xx:=Xx.keep HD
 replace R:=R.keep HD
 replace B:=B.keep HD
 replace xn0:=xn0.keep HD
 replace xn1:=xn1.keep HD
 replace HB:=later HB HD
 clear HD
 have nex:w.heap.size≠w.heap.size+1:=by omega
 go_region_held3 (fun w'=>w'.cell? ⟨w.heap.size,0,none⟩=some (.bool x.a.g)∧w'.cell? ⟨w.heap.size,1,none⟩=some (.slice xo0 xl0 xc0)∧w'.cell? ⟨w.heap.size,2,none⟩=some (.int .i64 x.a.e)∧w'.cell? ⟨w.heap.size,3,none⟩=some (.bool x.b.g)∧w'.cell? ⟨w.heap.size,4,none⟩=some (.slice xo1 xl1 xc1)∧w'.cell? ⟨w.heap.size,5,none⟩=some (.int .i64 x.b.e)) (first | with_reducible exact⟨Xx.c0,Xx.c1,Xx.c2,Xx.c3,Xx.c4,Xx.c5⟩ | with_reducible exact⟨far6 nex Xx.c0,far6 nex Xx.c1,far6 nex Xx.c2,far6 nex Xx.c3,far6 nex Xx.c4,far6 nex Xx.c5⟩ | go_keep)
   (first
     | (go_at_call_of 208 (Value.agg #[.bool x.a.g,.slice xo0 xl0 xc0,.int .i64 x.a.e]);with_reducible refine (part_lo xn0 sx0 z0 b0 k hk hk2).mono ?_;rintro _ Wm1 ⟨⟨vm1,rfl,m1⟩,hb1⟩;obtain⟨m1o,m1l,m1c,rfl, -, -⟩:=m1.shape;replace Xx:=Xx.keep hb1;replace R:=R.keep hb1;replace B:=B.keep hb1;replace xn0:=xn0.keep hb1;replace xn1:=xn1.keep hb1;replace HB:=later HB hb1;clear hb1)
     | (go_at_call_of 208 (Value.agg #[.bool x.b.g,.slice xo1 xl1 xc1,.int .i64 x.b.e]);with_reducible refine (part_hi xn1 sx1 z1 b1 k hk hk2).mono ?_;rintro _ Wm2 ⟨⟨vm2,rfl,m2⟩,hb1⟩;obtain⟨m2o,m2l,m2c,rfl, -, -⟩:=m2.shape;replace Xx:=Xx.keep hb1;replace R:=R.keep hb1;replace B:=B.keep hb1;replace xn0:=xn0.keep hb1;replace xn1:=xn1.keep hb1;replace m1:=m1.keep hb1;replace HB:=later HB hb1;clear hb1;obtain⟨r0,r1,r2,r3,r4,r5,g0,g1,g2,g3,g4,g5,rl⟩:=id R))
 all_goals
   go_wp2_with fail
   refine bodyPost_ret (v:=.agg #[.bool (partX x.a k true).g,.slice m1o m1l m1c,.int .i64 (partX x.a k true).e,.bool (partX x.b k false).g,.slice m2o m2l m2c,.int .i64 (partX x.b k false).e]) (by simp [results,Tryz.results140,go_sem, *]) rfl ⟨⟨_,rfl, ?_⟩, ?_⟩
   · have hp:=PI.of (x:=⟨partX x.a k true,partX x.b k false⟩) m1 m2
     repeat' (first | (with_reducible exact hp) | (with_reducible exact B) | (with_reducible refine PI.put ?_ ?_ _ _) | (with_reducible refine Boxed.set ?_ _ _ _))
   · repeat' (first | (with_reducible exact HB) | (with_reducible refine Below.setCell ?_ ?_ _) | go_size)
def ofX (a:Nm):Pr:=⟨a,a⟩
def intX (n:Nat):Nm:=⟨false,n,0⟩
def shiftX (x:Pr) (n:Int):Pr:=⟨⟨x.a.g,x.a.m,x.a.e+n⟩,⟨x.b.g,x.b.m,x.b.e+n⟩⟩
def arX (x:Pr) (e:Int):Pr:=pairX (sumX x.a (minusX ⟨false,1,e⟩)) (sumX x.b ⟨false,1,e⟩)
set_option maxHeartbeats 1000000 in
theorem of_m {w:World} {x:Value} {a:Nm} (ha:NI w x a) :
   Calls Tryz.prog 81 #[x] w fun r w'=>(∃v,r=.returned v∧PI w' v (ofX a))∧Below w.heap.size w w':=by
 obtain⟨ao,l,ca,rfl, -,a2⟩:=ha.shape
 go_enter Tryz.func81,Tryz.ntmps81
 go_wp2_with fail
 refine bodyPost_ret (v:=.agg #[.bool a.g,.slice ao l ca,.int .i64 a.e,.bool a.g,.slice ao l ca,.int .i64 a.e]) (by simp [results,Tryz.results81,go_sem, *]) rfl ⟨⟨_,rfl, ?_⟩,by go_grown⟩
 exact⟨_,_,rfl,a2.keep (by go_grown),a2.keep (by go_grown)⟩
set_option maxHeartbeats 1000000 in
theorem int_m (n:Nat) (hn:(n:Int)<4611686018427387904) (w:World) :
   Calls Tryz.prog 82 #[.int .i64 (n:Int)] w fun r w'=>(∃v,r=.returned v∧NI w' v (intX n))∧Below w.heap.size w w':=by
 have co:=fun w=>of_w n (by omega) w
 have hn0:¬(n:Int)<0:=by omega
 have hw:IntKind.u64.wrap (n:Int)=(n:Int):=by rw [IntKind.wrap_u64];omega
 go_enter Tryz.func82,Tryz.ntmps82
 go_wp2_with
  (go_at_call 90;refine (co _).mono ?_;rintro _ w6 ⟨⟨v3,rfl,hv3⟩,hb6⟩
   obtain⟨o3,l3,p3,rfl, -⟩:=hv3.shape
   have R:Has3 w6 w.heap.size (.bool false) (.slice none 0 0) (.int .i64 0):=Has3.keep ⟨by go_simp,by go_simp,by go_simp,by go_simp,by go_simp,by go_simp,by go_size⟩ hb6
   have B:=(Boxed.new w #[.bool false,.slice none 0 0,.int .i64 0]).keep hb6
   have HB:Below w.heap.size w w6:=later (by go_grown) hb6
   obtain⟨z0,z1,z2,z3,z4,z5,z6⟩:=R)
 refine bodyPost_ret (v:=.agg #[.bool false,.slice o3 l3 p3,.int .i64 0]) (by simp [results,Tryz.results82,go_sem, *]) rfl ⟨⟨_,rfl,_,rfl,(show BigIs _ _ n from ?_)⟩, ?_⟩
 all_goals repeat' (first | (with_reducible exact hv3) | (with_reducible exact HB) | (with_reducible exact B) | (with_reducible refine BigIs.put ?_ ?_ _ _) | (with_reducible refine Boxed.set ?_ _ _ _) | (with_reducible refine Below.setCell ?_ ?_ _) | go_size)
set_option maxHeartbeats 1000000 in
theorem intP_m (n:Nat) (hn:(n:Int)<4611686018427387904) (w:World) :
   Calls Tryz.prog 35 #[.int .i64 (n:Int)] w fun r w'=>(∃v,r=.returned v∧PI w' v (ofX (intX n)))∧Below w.heap.size w w':=by
 have c1:=fun w=>int_m n hn w
 have R:=hs6_new w (.bool false) (.slice none 0 0) (.int .i64 0) (.bool false) (.slice none 0 0) (.int .i64 0) 31
 have B:=Boxed.newP w #[.bool false,.slice none 0 0,.int .i64 0,.bool false,.slice none 0 0,.int .i64 0]
 have HB:Below w.heap.size w (w.alloc (.cells #[.bool false,.slice none 0 0,.int .i64 0,.bool false,.slice none 0 0,.int .i64 0] 31)):=by go_grown
 go_enter Tryz.func35,Tryz.ntmps35
 go_upto_region 1 with fail
 generalize w.alloc (.cells #[.bool false,.slice none 0 0,.int .i64 0,.bool false,.slice none 0 0,.int .i64 0] 31)=V1 at *
 go_wp2_with (first
   | (go_at_call 82;refine (c1 _).mono ?_;rintro _ V2 ⟨⟨v2,rfl,n2⟩,hb1⟩;obtain⟨o2,l2,c2,rfl, -, -⟩:=n2.shape;replace R:=R.keep hb1;replace B:=B.keep hb1;replace HB:=later HB hb1;clear hb1)
   | (go_at_call 81;refine (of_m n2).mono ?_;rintro _ V3 ⟨⟨v3,rfl,n3⟩,hb1⟩;obtain⟨o3,l3,c3,o4,l4,c4,rfl, -, -⟩:=n3.shape;replace R:=R.keep hb1;replace B:=B.keep hb1;replace HB:=later HB hb1;clear hb1;obtain⟨r0,r1,r2,r3,r4,r5,g0,g1,g2,g3,g4,g5,rl⟩:=id R))
 refine bodyPost_ret (v:=.agg #[.bool (ofX (intX n)).a.g,.slice o3 l3 c3,.int .i64 (ofX (intX n)).a.e,.bool (ofX (intX n)).b.g,.slice o4 l4 c4,.int .i64 (ofX (intX n)).b.e]) (by simp [results,Tryz.results35,go_sem, *]) rfl ⟨⟨_,rfl, ?_⟩, ?_⟩
 · repeat' (first | (with_reducible exact n3) | (with_reducible exact B) | (with_reducible refine PI.put ?_ ?_ _ _) | (with_reducible refine Boxed.set ?_ _ _ _))
 · repeat' (first | (with_reducible exact HB) | (with_reducible refine Below.setCell ?_ ?_ _) | go_size)
set_option maxHeartbeats 1000000 in
theorem shift_m {w:World} {v:Value} {x:Pr} (hx:PI w v x) (sx:SmP x) (n:Int) (hn1:-1000≤n) (hn2:n≤1000) :
   Calls Tryz.prog 33 #[v,.int .i64 n] w fun r w'=>(∃v,r=.returned v∧PI w' v (shiftX x n))∧Below w.heap.size w w':=by
 obtain⟨ao,l,ca,bo,k,cb,rfl,⟨s,e1,h1⟩,⟨t,e2,h2⟩⟩:=hx.shape
 have q1:s=.slice ao l ca:=by simp at e1;exact e1.symm
 have q2:t=.slice bo k cb:=by simp at e2;exact e2.symm
 subst q1 q2
 obtain⟨⟨-,a1,a2⟩,⟨-,a3,a4⟩⟩:=sx
 unfold shiftX
 clear e1 e2 hx
 go_enter Tryz.func33,Tryz.ntmps33
 go_wp2_with fail
 refine bodyPost_ret (v:=.agg #[.bool x.a.g,.slice ao l ca,.int .i64 (x.a.e+n),.bool x.b.g,.slice bo k cb,.int .i64 (x.b.e+n)]) (by simp [results,Tryz.results33,go_sem, *]) rfl ⟨⟨_,rfl, ?_⟩,by go_grown⟩
 exact⟨_,_,rfl,h1.keep (by go_grown),h2.keep (by go_grown)⟩
set_option maxHeartbeats 1600000 in
theorem around_m {w:World} {vx:Value} {x:Pr} (hx:PI w vx x) (sx:SmP x) (e:Int) (s1:Sm (sumX x.a (minusX ⟨false,1,e⟩))) (s2:Sm (sumX x.b ⟨false,1,e⟩)) (sd:Sm ⟨false,1,e⟩) (sm:Sm (minusX ⟨false,1,e⟩)) :
   Calls Tryz.prog 141 #[vx,.int .i64 e] w fun r w'=>(∃v,r=.returned v∧PI w' v (arX x e))∧Below w.heap.size w w':=by
 obtain⟨xo0,xl0,xc0,xo1,xl1,xc1,rfl,xn0,xn1⟩:=hx.shape
 unfold arX
 obtain⟨sx0,sx1⟩:=sx
 have Xx:=(hs6_new w (.bool x.a.g) (.slice xo0 xl0 xc0) (.int .i64 x.a.e) (.bool x.b.g) (.slice xo1 xl1 xc1) (.int .i64 x.b.e) 31).alloc (.cells #[.bool false,.slice none 0 0,.int .i64 0,.bool false,.slice none 0 0,.int .i64 0] 31)
 have R:=hs6_new (w.alloc (.cells #[.bool x.a.g,.slice xo0 xl0 xc0,.int .i64 x.a.e,.bool x.b.g,.slice xo1 xl1 xc1,.int .i64 x.b.e] 31)) (.bool false) (.slice none 0 0) (.int .i64 0) (.bool false) (.slice none 0 0) (.int .i64 0) 31
 have B:=Boxed.newP (w.alloc (.cells #[.bool x.a.g,.slice xo0 xl0 xc0,.int .i64 x.a.e,.bool x.b.g,.slice xo1 xl1 xc1,.int .i64 x.b.e] 31)) #[.bool false,.slice none 0 0,.int .i64 0,.bool false,.slice none 0 0,.int .i64 0]
 have HB:Below w.heap.size w ((w.alloc (.cells #[.bool x.a.g,.slice xo0 xl0 xc0,.int .i64 x.a.e,.bool x.b.g,.slice xo1 xl1 xc1,.int .i64 x.b.e] 31)).alloc (.cells #[.bool false,.slice none 0 0,.int .i64 0,.bool false,.slice none 0 0,.int .i64 0] 31)):=by go_grown
 replace xn0:=xn0.keep HB
 replace xn1:=xn1.keep HB
 simp only [World.size_alloc] at R B
 go_enter Tryz.func141,Tryz.ntmps141
 go_upto_region 1 with fail
 generalize ((w.alloc (.cells #[.bool x.a.g,.slice xo0 xl0 xc0,.int .i64 x.a.e,.bool x.b.g,.slice xo1 xl1 xc1,.int .i64 x.b.e] 31)).alloc (.cells #[.bool false,.slice none 0 0,.int .i64 0,.bool false,.slice none 0 0,.int .i64 0] 31))=V1 at *
 go_upto_region 2 with (go_at_call 90;refine (of_w 1 (by omega) _).mono ?_;rintro _ V2 ⟨⟨vd,rfl,hd⟩,hb1⟩;obtain⟨dO,dL,dC,rfl, -⟩:=hd.shape;replace Xx:=Xx.keep hb1;replace R:=R.keep hb1;replace B:=B.keep hb1;replace xn0:=xn0.keep hb1;replace xn1:=xn1.keep hb1;replace HB:=later HB hb1;clear hb1)
 have D:=has3_new V2 (.bool false) (.slice dO dL dC) (.int .i64 e) 29
 have hb1:Below V2.heap.size V2 (V2.alloc (.cells #[.bool false,.slice dO dL dC,.int .i64 e] 29)):=by go_grown
 have nd:NI (V2.alloc (.cells #[.bool false,.slice dO dL dC,.int .i64 e] 29)) (.agg #[.bool false,.slice dO dL dC,.int .i64 e]) ⟨false,1,e⟩:=⟨_,rfl,hd.keep hb1⟩
 have ned:V2.heap.size≠w.heap.size+1:=by have:=R.lt;omega
 replace Xx:=Xx.keep hb1;replace R:=R.keep hb1;replace B:=B.keep hb1;replace xn0:=xn0.keep hb1;replace xn1:=xn1.keep hb1;replace HB:=later HB hb1
 clear hb1 hd
 generalize V2.alloc (.cells #[.bool false,.slice dO dL dC,.int .i64 e] 29)=V3 at *
 generalize V2.heap.size=bd at *
 have HD:Below V3.heap.size V3 V3.drew:=(Below.refl _ _).drew
 replace Xx:=Xx.keep HD
 replace R:=R.keep HD
 replace B:=B.keep HD
 replace xn0:=xn0.keep HD
 replace xn1:=xn1.keep HD
 replace D:=D.keep HD
 replace nd:=nd.keep HD
 replace HB:=later HB HD
 clear HD
 have nex:w.heap.size≠w.heap.size+1:=by omega
 go_region_held3 (fun w'=>w'.cell? ⟨w.heap.size,0,none⟩=some (.bool x.a.g)∧w'.cell? ⟨w.heap.size,1,none⟩=some (.slice xo0 xl0 xc0)∧w'.cell? ⟨w.heap.size,2,none⟩=some (.int .i64 x.a.e)∧w'.cell? ⟨w.heap.size,3,none⟩=some (.bool x.b.g)∧w'.cell? ⟨w.heap.size,4,none⟩=some (.slice xo1 xl1 xc1)∧w'.cell? ⟨w.heap.size,5,none⟩=some (.int .i64 x.b.e)∧w'.cell? ⟨bd,0,none⟩=some (.bool false)∧w'.cell? ⟨bd,1,none⟩=some (.slice dO dL dC)∧w'.cell? ⟨bd,2,none⟩=some (.int .i64 e)) (first | with_reducible exact⟨Xx.c0,Xx.c1,Xx.c2,Xx.c3,Xx.c4,Xx.c5,D.c0,D.c1,D.c2⟩ | with_reducible exact⟨far6 nex Xx.c0,far6 nex Xx.c1,far6 nex Xx.c2,far6 nex Xx.c3,far6 nex Xx.c4,far6 nex Xx.c5,far6 ned D.c0,far6 ned D.c1,far6 ned D.c2⟩ | go_keep)
   (first
     | (go_at_call 142;with_reducible refine (minus_m nd).mono ?_;rintro _ Wm0 ⟨⟨vm0,rfl,m0⟩,hb1⟩;obtain⟨m0o,m0l,m0c,rfl, -, -⟩:=m0.shape;replace Xx:=Xx.keep hb1;replace R:=R.keep hb1;replace B:=B.keep hb1;replace xn0:=xn0.keep hb1;replace xn1:=xn1.keep hb1;replace D:=D.keep hb1;replace nd:=nd.keep hb1;replace HB:=later HB hb1;clear hb1)
     | (go_at_call_of 86 (Value.agg #[.bool x.a.g,.slice xo0 xl0 xc0,.int .i64 x.a.e]);with_reducible refine (sum_m xn0 m0 sx0 sm).mono ?_;rintro _ Wm1 ⟨⟨vm1,rfl,m1⟩,hb1⟩;obtain⟨m1o,m1l,m1c,rfl, -, -⟩:=m1.shape;replace Xx:=Xx.keep hb1;replace R:=R.keep hb1;replace B:=B.keep hb1;replace xn0:=xn0.keep hb1;replace xn1:=xn1.keep hb1;replace D:=D.keep hb1;replace nd:=nd.keep hb1;replace m0:=m0.keep hb1;replace HB:=later HB hb1;clear hb1)
     | (go_at_call_of 86 (Value.agg #[.bool x.b.g,.slice xo1 xl1 xc1,.int .i64 x.b.e]);with_reducible refine (sum_m xn1 nd sx1 sd).mono ?_;rintro _ Wm2 ⟨⟨vm2,rfl,m2⟩,hb1⟩;obtain⟨m2o,m2l,m2c,rfl, -, -⟩:=m2.shape;replace Xx:=Xx.keep hb1;replace R:=R.keep hb1;replace B:=B.keep hb1;replace xn0:=xn0.keep hb1;replace xn1:=xn1.keep hb1;replace D:=D.keep hb1;replace nd:=nd.keep hb1;replace m0:=m0.keep hb1;replace m1:=m1.keep hb1;replace HB:=later HB hb1;clear hb1)
     | (go_at_call 85;with_reducible refine (pair_m m1 m2 s1 s2).mono ?_;rintro _ Wpp ⟨⟨vpp,rfl,pp⟩,hb1⟩;obtain⟨ppo0,ppl0,ppc0,ppo1,ppl1,ppc1,rfl, -, -⟩:=pp.shape;replace Xx:=Xx.keep hb1;replace R:=R.keep hb1;replace B:=B.keep hb1;replace xn0:=xn0.keep hb1;replace xn1:=xn1.keep hb1;replace D:=D.keep hb1;replace nd:=nd.keep hb1;replace m0:=m0.keep hb1;replace m1:=m1.keep hb1;replace m2:=m2.keep hb1;replace HB:=later HB hb1;clear hb1;obtain⟨r0,r1,r2,r3,r4,r5,g0,g1,g2,g3,g4,g5,rl⟩:=id R))
 all_goals
   go_wp2_with fail
   refine bodyPost_ret (v:=.agg #[.bool (pairX (sumX x.a (minusX ⟨false,1,e⟩)) (sumX x.b ⟨false,1,e⟩)).a.g,.slice ppo0 ppl0 ppc0,.int .i64 (pairX (sumX x.a (minusX ⟨false,1,e⟩)) (sumX x.b ⟨false,1,e⟩)).a.e,.bool (pairX (sumX x.a (minusX ⟨false,1,e⟩)) (sumX x.b ⟨false,1,e⟩)).b.g,.slice ppo1 ppl1 ppc1,.int .i64 (pairX (sumX x.a (minusX ⟨false,1,e⟩)) (sumX x.b ⟨false,1,e⟩)).b.e]) (by simp [results,Tryz.results141,go_sem, *]) rfl ⟨⟨_,rfl, ?_⟩, ?_⟩
   · have hp:=pp
     repeat' (first | (with_reducible exact hp) | (with_reducible exact B) | (with_reducible refine PI.put ?_ ?_ _ _) | (with_reducible refine Boxed.set ?_ _ _ _))
   · repeat' (first | (with_reducible exact HB) | (with_reducible refine Below.setCell ?_ ?_ _) | go_size)
end Go.Proofs.YtopfabemfbdccaaGreat
