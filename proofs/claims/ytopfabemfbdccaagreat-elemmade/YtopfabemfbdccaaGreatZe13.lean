/- The reference's numbers between two: pair. The reference's numbers between two: Neg, Add. -/
import Derived.Test.YtopfabemfbdccaaGreatZe12
namespace Go.Proofs.YtopfabemfbdccaaGreat
open Go.ChangeShapes Go.WideShapes Go.ChangeAt Go.RowKit
structure Pr where
 a:Nm
 b:Nm
def SmP (x:Pr):Prop:=Sm x.a∧Sm x.b
def smP (x:Pr):Bool:=smB x.a&&smB x.b
theorem smP_of {x:Pr} (h:smP x=true):SmP x:=by
 unfold smP at h
 simp only [Bool.and_eq_true] at h
 exact⟨sm_of h.1,sm_of h.2⟩
def PI (w:World) (v:Value) (x:Pr):Prop:=∃s t,v=.agg #[.bool x.a.g,s,.int .i64 x.a.e,.bool x.b.g,t,.int .i64 x.b.e]∧BigIs w s x.a.m∧BigIs w t x.b.m
theorem PI.keep {w w':World} {v:Value} {x:Pr} (h:PI w v x) (hb:Below w.heap.size w w'):PI w' v x:=by
 obtain⟨s,t,h1,h2,h3⟩:=h
 exact⟨s,t,h1,h2.keep hb,h3.keep hb⟩
theorem PI.shape {w:World} {v:Value} {x:Pr} (h:PI w v x):∃ao l ca bo k cb,v=.agg #[.bool x.a.g,.slice ao l ca,.int .i64 x.a.e,.bool x.b.g,.slice bo k cb,.int .i64 x.b.e]∧NI w (.agg #[.bool x.a.g,.slice ao l ca,.int .i64 x.a.e]) x.a∧NI w (.agg #[.bool x.b.g,.slice bo k cb,.int .i64 x.b.e]) x.b:=by
 obtain⟨s,t,h1,h2,h3⟩:=h
 obtain⟨ao,l,ca,rfl, -⟩:=h2.shape
 obtain⟨bo,k,cb,rfl, -⟩:=h3.shape
 exact⟨ao,l,ca,bo,k,cb,h1,⟨_,rfl,h2⟩,⟨_,rfl,h3⟩⟩
theorem PI.of {w:World} {x:Pr} {ao bo:Option Addr} {l ca k cb:Nat} (ha:NI w (.agg #[.bool x.a.g,.slice ao l ca,.int .i64 x.a.e]) x.a) (hb:NI w (.agg #[.bool x.b.g,.slice bo k cb,.int .i64 x.b.e]) x.b):PI w (.agg #[.bool x.a.g,.slice ao l ca,.int .i64 x.a.e,.bool x.b.g,.slice bo k cb,.int .i64 x.b.e]) x:=by
 obtain⟨s,e1,h1⟩:=ha
 obtain⟨t,e2,h2⟩:=hb
 have q1:s=.slice ao l ca:=by simp at e1;exact e1.symm
 have q2:t=.slice bo k cb:=by simp at e2;exact e2.symm
 subst q1 q2
 exact⟨_,_,rfl,h1,h2⟩
theorem NI.put {w:World} {v:Value} {a:Nm} (h:NI w v a) {b:Nat} (hb:Boxed w b) (o:Nat) (x:Value):NI (w.setCell ⟨b,o,none⟩ x) v a:=by
 obtain⟨s,e,h⟩:=h
 exact⟨s,e,h.put hb o x⟩
theorem PI.put {w:World} {v:Value} {y:Pr} (h:PI w v y) {b:Nat} (hb:Boxed w b) (o:Nat) (x:Value):PI (w.setCell ⟨b,o,none⟩ x) v y:=by
 obtain⟨s,t,e,h1,h2⟩:=h
 exact⟨s,t,e,h1.put hb o x,h2.put hb o x⟩
theorem Boxed.newP (w:World) (cur:Array Value):Boxed (w.alloc (.cells cur 31)) w.heap.size:=⟨cur,31,(0,0),by decide,heap_alloc_new w _⟩
structure Hs6 (w:World) (b:Nat) (a0 a1 a2 a3 a4 a5:Value):Prop where
 c0:w.cell? ⟨b,0,none⟩=some a0
 c1:w.cell? ⟨b,1,none⟩=some a1
 c2:w.cell? ⟨b,2,none⟩=some a2
 c3:w.cell? ⟨b,3,none⟩=some a3
 c4:w.cell? ⟨b,4,none⟩=some a4
 c5:w.cell? ⟨b,5,none⟩=some a5
 f0:w.frozen? ⟨b,0,none⟩=false
 f1:w.frozen? ⟨b,1,none⟩=false
 f2:w.frozen? ⟨b,2,none⟩=false
 f3:w.frozen? ⟨b,3,none⟩=false
 f4:w.frozen? ⟨b,4,none⟩=false
 f5:w.frozen? ⟨b,5,none⟩=false
 lt:b<w.heap.size
theorem Hs6.keep {w w2:World} {b:Nat} {a0 a1 a2 a3 a4 a5:Value} (h:Hs6 w b a0 a1 a2 a3 a4 a5) (hb:Below w.heap.size w w2):Hs6 w2 b a0 a1 a2 a3 a4 a5 :=
 ⟨keepsC hb h.c0 h.lt,keepsC hb h.c1 h.lt,keepsC hb h.c2 h.lt,keepsC hb h.c3 h.lt,keepsC hb h.c4 h.lt,keepsC hb h.c5 h.lt,keepsF hb h.f0 h.lt,keepsF hb h.f1 h.lt,keepsF hb h.f2 h.lt,keepsF hb h.f3 h.lt,keepsF hb h.f4 h.lt,keepsF hb h.f5 h.lt,Nat.lt_of_lt_of_le h.lt hb.size⟩
theorem hs6_new (w:World) (a0 a1 a2 a3 a4 a5:Value) (T:TypeId):Hs6 (w.alloc (.cells #[a0,a1,a2,a3,a4,a5] T)) w.heap.size a0 a1 a2 a3 a4 a5:=⟨by go_simp,by go_simp,by go_simp,by go_simp,by go_simp,by go_simp,by go_simp,by go_simp,by go_simp,by go_simp,by go_simp,by go_simp,by go_size⟩
theorem Has3.alloc {w:World} {b:Nat} {x y z:Value} (h:Has3 w b x y z) (o:Obj):Has3 (w.alloc o) b x y z:=h.keep ((Below.refl _ _).alloc (Nat.le_refl _) o)
theorem Hs6.alloc {w:World} {b:Nat} {a0 a1 a2 a3 a4 a5:Value} (h:Hs6 w b a0 a1 a2 a3 a4 a5) (o:Obj):Hs6 (w.alloc o) b a0 a1 a2 a3 a4 a5:=h.keep ((Below.refl _ _).alloc (Nat.le_refl _) o)
theorem Has3.c0 {w:World} {b:Nat} {x y z:Value} (h:Has3 w b x y z):w.cell? ⟨b,0,none⟩=some x:=h.1
theorem Has3.c1 {w:World} {b:Nat} {x y z:Value} (h:Has3 w b x y z):w.cell? ⟨b,1,none⟩=some y:=h.2.1
theorem Has3.c2 {w:World} {b:Nat} {x y z:Value} (h:Has3 w b x y z):w.cell? ⟨b,2,none⟩=some z:=h.2.2.1
theorem Bex.one {w:World} (b o:Nat) (v:Value) {c k:Nat} (h:c≠b):(w.setCell ⟨b,o,none⟩ v).cell? ⟨c,k,none⟩=w.cell? ⟨c,k,none⟩:=World.cell?_of_block (w:=w) (Below.heap_setCell _ _ _ _ h)
theorem far6 {w:World} {b:Nat} {v0 v1 v2 v3 v4 v5:Value} {c k:Nat} {u:Value} (h:c≠b) (hc:w.cell? ⟨c,k,none⟩=some u):((((((w.setCell ⟨b,0,none⟩ v0).setCell ⟨b,1,none⟩ v1).setCell ⟨b,2,none⟩ v2).setCell ⟨b,3,none⟩ v3).setCell ⟨b,4,none⟩ v4).setCell ⟨b,5,none⟩ v5).cell? ⟨c,k,none⟩=some u:=by
 rw [Bex.one _ _ _ h,Bex.one _ _ _ h,Bex.one _ _ _ h,Bex.one _ _ _ h,Bex.one _ _ _ h,Bex.one _ _ _ h]
 exact hc
theorem has3_new (w:World) (x y z:Value) (T:TypeId):Has3 (w.alloc (.cells #[x,y,z] T)) w.heap.size x y z:=⟨by go_simp,by go_simp,by go_simp,by go_simp,by go_simp,by go_simp,by go_size⟩
def pairX (a b:Nm):Pr:=⟨cutX a true,cutX b false⟩
set_option maxHeartbeats 800000 in
theorem pair_m {w:World} {x y:Value} {a b:Nm} (ha:NI w x a) (hb:NI w y b) (sa:Sm a) (sb:Sm b) :
   Calls Tryz.prog 85 #[x,y] w fun r w'=>(∃v,r=.returned v∧PI w' v (pairX a b))∧Below w.heap.size w w':=by
 have c1:=fun W (hW:Below w.heap.size w W)=>cut_m (ha.keep hW) sa true
 have c2:=fun W (hW:Below w.heap.size w W)=>cut_m (hb.keep hW) sb false
 obtain⟨ao,l,ca,rfl, -, -⟩:=ha.shape
 obtain⟨bo,k,cb,rfl, -, -⟩:=hb.shape
 unfold pairX
 generalize cutX a true=p at *
 generalize cutX b false=q at *
 simp only [dirZ,if_true,Bool.false_eq_true,if_false] at c1 c2
 have X:=((has3_new w (.bool a.g) (.slice ao l ca) (.int .i64 a.e) 29).alloc (.cells #[.bool b.g,.slice bo k cb,.int .i64 b.e] 29)).alloc (.cells #[.bool false,.slice none 0 0,.int .i64 0,.bool false,.slice none 0 0,.int .i64 0] 31)
 have Y:=(has3_new (w.alloc (.cells #[.bool a.g,.slice ao l ca,.int .i64 a.e] 29)) (.bool b.g) (.slice bo k cb) (.int .i64 b.e) 29).alloc (.cells #[.bool false,.slice none 0 0,.int .i64 0,.bool false,.slice none 0 0,.int .i64 0] 31)
 have R:=hs6_new ((w.alloc (.cells #[.bool a.g,.slice ao l ca,.int .i64 a.e] 29)).alloc (.cells #[.bool b.g,.slice bo k cb,.int .i64 b.e] 29)) (.bool false) (.slice none 0 0) (.int .i64 0) (.bool false) (.slice none 0 0) (.int .i64 0) 31
 have B:=Boxed.newP ((w.alloc (.cells #[.bool a.g,.slice ao l ca,.int .i64 a.e] 29)).alloc (.cells #[.bool b.g,.slice bo k cb,.int .i64 b.e] 29)) #[.bool false,.slice none 0 0,.int .i64 0,.bool false,.slice none 0 0,.int .i64 0]
 have HB:Below w.heap.size w (((w.alloc (.cells #[.bool a.g,.slice ao l ca,.int .i64 a.e] 29)).alloc (.cells #[.bool b.g,.slice bo k cb,.int .i64 b.e] 29)).alloc (.cells #[.bool false,.slice none 0 0,.int .i64 0,.bool false,.slice none 0 0,.int .i64 0] 31)):=by go_grown
 simp only [World.size_alloc] at Y R B
 go_enter Tryz.func85,Tryz.ntmps85
 go_upto_region 1 with fail
 generalize (((w.alloc (.cells #[.bool a.g,.slice ao l ca,.int .i64 a.e] 29)).alloc (.cells #[.bool b.g,.slice bo k cb,.int .i64 b.e] 29)).alloc (.cells #[.bool false,.slice none 0 0,.int .i64 0,.bool false,.slice none 0 0,.int .i64 0] 31))=V1 at *
 replace X:=X.drew
 replace Y:=Y.drew
 replace R:=R.keep (Below.refl _ _).drew
 replace B:=B.keep (Below.refl _ _).drew
 replace HB:=HB.drew
 have ne1:w.heap.size+1+1≠w.heap.size:=by omega
 have ne2:w.heap.size+1+1≠w.heap.size+1:=by omega
 have ne3:w.heap.size≠w.heap.size+1+1:=by omega
 have ne4:w.heap.size+1≠w.heap.size+1+1:=by omega
 go_region_held3 (fun w'=>w'.cell? ⟨w.heap.size,0,none⟩=some (.bool a.g)∧w'.cell? ⟨w.heap.size,1,none⟩=some (.slice ao l ca)∧w'.cell? ⟨w.heap.size,2,none⟩=some (.int .i64 a.e)∧w'.cell? ⟨w.heap.size+1,0,none⟩=some (.bool b.g)∧w'.cell? ⟨w.heap.size+1,1,none⟩=some (.slice bo k cb)∧w'.cell? ⟨w.heap.size+1,2,none⟩=some (.int .i64 b.e)) (first | with_reducible exact⟨X.c0,X.c1,X.c2,Y.c0,Y.c1,Y.c2⟩ | with_reducible exact⟨far6 ne3 X.c0,far6 ne3 X.c1,far6 ne3 X.c2,far6 ne4 Y.c0,far6 ne4 Y.c1,far6 ne4 Y.c2⟩ | go_keep)
   (first
     | (go_at_call_of 146 (Value.agg #[.bool a.g,.slice ao l ca,.int .i64 a.e]);with_reducible refine (c1 _ HB).mono ?_;rintro _ w2 ⟨⟨v1,rfl,h1⟩,hb1⟩;obtain⟨o1,l1,k1,rfl, -, -⟩:=h1.shape;replace X:=X.keep hb1;replace Y:=Y.keep hb1;replace R:=R.keep hb1;replace B:=B.keep hb1;replace HB:=later HB hb1;(try replace h2:=h2.keep hb1);obtain⟨r0,r1,r2,r3,r4,r5,g0,g1,g2,g3,g4,g5,rl⟩:=id R)
     | (go_at_call_of 146 (Value.agg #[.bool b.g,.slice bo k cb,.int .i64 b.e]);with_reducible refine (c2 _ HB).mono ?_;rintro _ w3 ⟨⟨v2,rfl,h2⟩,hb1⟩;obtain⟨o2,l2,k2,rfl, -, -⟩:=h2.shape;replace X:=X.keep hb1;replace Y:=Y.keep hb1;replace R:=R.keep hb1;replace B:=B.keep hb1;replace HB:=later HB hb1;(try replace h1:=h1.keep hb1);obtain⟨r0,r1,r2,r3,r4,r5,g0,g1,g2,g3,g4,g5,rl⟩:=id R))
 all_goals
   go_wp2_with fail
   refine bodyPost_ret (v:=.agg #[.bool p.g,.slice o1 l1 k1,.int .i64 p.e,.bool q.g,.slice o2 l2 k2,.int .i64 q.e]) (by simp [results,Tryz.results85,go_sem, *]) rfl ⟨⟨_,rfl, ?_⟩, ?_⟩
   · have hp:=PI.of (x:=⟨p,q⟩) h1 h2
     repeat' (first | (with_reducible exact hp) | (with_reducible exact B) | (with_reducible refine PI.put ?_ ?_ _ _) | (with_reducible refine Boxed.set ?_ _ _ _))
   · repeat' (first | (with_reducible exact HB) | (with_reducible refine Below.setCell ?_ ?_ _) | go_size)
def negX (x:Pr):Pr:=⟨minusX x.b,minusX x.a⟩
def addX (x y:Pr):Pr:=pairX (sumX x.a y.a) (sumX x.b y.b)
set_option maxHeartbeats 1600000 in
theorem neg_m {w:World} {vx:Value} {x:Pr} (hx:PI w vx x)  :
   Calls Tryz.prog 80 #[vx] w fun r w'=>(∃v,r=.returned v∧PI w' v (negX x))∧Below w.heap.size w w':=by
 obtain⟨xo0,xl0,xc0,xo1,xl1,xc1,rfl,xn0,xn1⟩:=hx.shape
 unfold negX
 have Xx:=(hs6_new w (.bool x.a.g) (.slice xo0 xl0 xc0) (.int .i64 x.a.e) (.bool x.b.g) (.slice xo1 xl1 xc1) (.int .i64 x.b.e) 31).alloc (.cells #[.bool false,.slice none 0 0,.int .i64 0,.bool false,.slice none 0 0,.int .i64 0] 31)
 have R:=hs6_new (w.alloc (.cells #[.bool x.a.g,.slice xo0 xl0 xc0,.int .i64 x.a.e,.bool x.b.g,.slice xo1 xl1 xc1,.int .i64 x.b.e] 31)) (.bool false) (.slice none 0 0) (.int .i64 0) (.bool false) (.slice none 0 0) (.int .i64 0) 31
 have B:=Boxed.newP (w.alloc (.cells #[.bool x.a.g,.slice xo0 xl0 xc0,.int .i64 x.a.e,.bool x.b.g,.slice xo1 xl1 xc1,.int .i64 x.b.e] 31)) #[.bool false,.slice none 0 0,.int .i64 0,.bool false,.slice none 0 0,.int .i64 0]
 have HB:Below w.heap.size w ((w.alloc (.cells #[.bool x.a.g,.slice xo0 xl0 xc0,.int .i64 x.a.e,.bool x.b.g,.slice xo1 xl1 xc1,.int .i64 x.b.e] 31)).alloc (.cells #[.bool false,.slice none 0 0,.int .i64 0,.bool false,.slice none 0 0,.int .i64 0] 31)):=by go_grown
 replace xn0:=xn0.keep HB
 replace xn1:=xn1.keep HB
 simp only [World.size_alloc] at R B
 go_enter Tryz.func80,Tryz.ntmps80
 go_upto_region 1 with fail
 generalize ((w.alloc (.cells #[.bool x.a.g,.slice xo0 xl0 xc0,.int .i64 x.a.e,.bool x.b.g,.slice xo1 xl1 xc1,.int .i64 x.b.e] 31)).alloc (.cells #[.bool false,.slice none 0 0,.int .i64 0,.bool false,.slice none 0 0,.int .i64 0] 31))=V1 at *
 have HD:Below V1.heap.size V1 V1.drew:=(Below.refl _ _).drew
 replace Xx:=Xx.keep HD
 replace R:=R.keep HD
 replace B:=B.keep HD
 replace xn0:=xn0.keep HD
 replace xn1:=xn1.keep HD
 replace HB:=later HB HD
 clear HD
 have nex:w.heap.size≠w.heap.size+1:=by omega
 go_region_held3 (fun w'=>w'.cell? ⟨w.heap.size,0,none⟩=some (.bool x.a.g)∧w'.cell? ⟨w.heap.size,1,none⟩=some (.slice xo0 xl0 xc0)∧w'.cell? ⟨w.heap.size,2,none⟩=some (.int .i64 x.a.e)∧w'.cell? ⟨w.heap.size,3,none⟩=some (.bool x.b.g)∧w'.cell? ⟨w.heap.size,4,none⟩=some (.slice xo1 xl1 xc1)∧w'.cell? ⟨w.heap.size,5,none⟩=some (.int .i64 x.b.e)) (first | with_reducible exact⟨Xx.c0,Xx.c1,Xx.c2,Xx.c3,Xx.c4,Xx.c5⟩ | with_reducible exact⟨far6 nex Xx.c0,far6 nex Xx.c1,far6 nex Xx.c2,far6 nex Xx.c3,far6 nex Xx.c4,far6 nex Xx.c5⟩ | go_keep)
   (first
     | (go_at_call_of 142 (Value.agg #[.bool x.b.g,.slice xo1 xl1 xc1,.int .i64 x.b.e]);with_reducible refine (minus_m xn1).mono ?_;rintro _ Wm1 ⟨⟨vm1,rfl,m1⟩,hb1⟩;obtain⟨m1o,m1l,m1c,rfl, -, -⟩:=m1.shape;replace Xx:=Xx.keep hb1;replace R:=R.keep hb1;replace B:=B.keep hb1;replace xn0:=xn0.keep hb1;replace xn1:=xn1.keep hb1;replace HB:=later HB hb1;clear hb1)
     | (go_at_call_of 142 (Value.agg #[.bool x.a.g,.slice xo0 xl0 xc0,.int .i64 x.a.e]);with_reducible refine (minus_m xn0).mono ?_;rintro _ Wm2 ⟨⟨vm2,rfl,m2⟩,hb1⟩;obtain⟨m2o,m2l,m2c,rfl, -, -⟩:=m2.shape;replace Xx:=Xx.keep hb1;replace R:=R.keep hb1;replace B:=B.keep hb1;replace xn0:=xn0.keep hb1;replace xn1:=xn1.keep hb1;replace m1:=m1.keep hb1;replace HB:=later HB hb1;clear hb1;obtain⟨r0,r1,r2,r3,r4,r5,g0,g1,g2,g3,g4,g5,rl⟩:=id R))
 all_goals
   go_wp2_with fail
   refine bodyPost_ret (v:=.agg #[.bool (minusX x.b).g,.slice m1o m1l m1c,.int .i64 (minusX x.b).e,.bool (minusX x.a).g,.slice m2o m2l m2c,.int .i64 (minusX x.a).e]) (by simp [results,Tryz.results80,go_sem, *]) rfl ⟨⟨_,rfl, ?_⟩, ?_⟩
   · have hp:=PI.of (x:=⟨minusX x.b,minusX x.a⟩) m1 m2
     repeat' (first | (with_reducible exact hp) | (with_reducible exact B) | (with_reducible refine PI.put ?_ ?_ _ _) | (with_reducible refine Boxed.set ?_ _ _ _))
   · repeat' (first | (with_reducible exact HB) | (with_reducible refine Below.setCell ?_ ?_ _) | go_size)
set_option maxHeartbeats 1600000 in
theorem add_m {w:World} {vx vy:Value} {x y:Pr} (hx:PI w vx x) (hy:PI w vy y) (sx:SmP x) (sy:SmP y) (s1:Sm (sumX x.a y.a)) (s2:Sm (sumX x.b y.b)) :
   Calls Tryz.prog 37 #[vx,vy] w fun r w'=>(∃v,r=.returned v∧PI w' v (addX x y))∧Below w.heap.size w w':=by
 obtain⟨xo0,xl0,xc0,xo1,xl1,xc1,rfl,xn0,xn1⟩:=hx.shape
 obtain⟨yo0,yl0,yc0,yo1,yl1,yc1,rfl,yn0,yn1⟩:=hy.shape
 unfold addX
 obtain⟨sx0,sx1⟩:=sx
 obtain⟨sy0,sy1⟩:=sy
 have Xx:=((hs6_new w (.bool x.a.g) (.slice xo0 xl0 xc0) (.int .i64 x.a.e) (.bool x.b.g) (.slice xo1 xl1 xc1) (.int .i64 x.b.e) 31).alloc (.cells #[.bool y.a.g,.slice yo0 yl0 yc0,.int .i64 y.a.e,.bool y.b.g,.slice yo1 yl1 yc1,.int .i64 y.b.e] 31)).alloc (.cells #[.bool false,.slice none 0 0,.int .i64 0,.bool false,.slice none 0 0,.int .i64 0] 31)
 have Xy:=(hs6_new (w.alloc (.cells #[.bool x.a.g,.slice xo0 xl0 xc0,.int .i64 x.a.e,.bool x.b.g,.slice xo1 xl1 xc1,.int .i64 x.b.e] 31)) (.bool y.a.g) (.slice yo0 yl0 yc0) (.int .i64 y.a.e) (.bool y.b.g) (.slice yo1 yl1 yc1) (.int .i64 y.b.e) 31).alloc (.cells #[.bool false,.slice none 0 0,.int .i64 0,.bool false,.slice none 0 0,.int .i64 0] 31)
 have R:=hs6_new ((w.alloc (.cells #[.bool x.a.g,.slice xo0 xl0 xc0,.int .i64 x.a.e,.bool x.b.g,.slice xo1 xl1 xc1,.int .i64 x.b.e] 31)).alloc (.cells #[.bool y.a.g,.slice yo0 yl0 yc0,.int .i64 y.a.e,.bool y.b.g,.slice yo1 yl1 yc1,.int .i64 y.b.e] 31)) (.bool false) (.slice none 0 0) (.int .i64 0) (.bool false) (.slice none 0 0) (.int .i64 0) 31
 have B:=Boxed.newP ((w.alloc (.cells #[.bool x.a.g,.slice xo0 xl0 xc0,.int .i64 x.a.e,.bool x.b.g,.slice xo1 xl1 xc1,.int .i64 x.b.e] 31)).alloc (.cells #[.bool y.a.g,.slice yo0 yl0 yc0,.int .i64 y.a.e,.bool y.b.g,.slice yo1 yl1 yc1,.int .i64 y.b.e] 31)) #[.bool false,.slice none 0 0,.int .i64 0,.bool false,.slice none 0 0,.int .i64 0]
 have HB:Below w.heap.size w (((w.alloc (.cells #[.bool x.a.g,.slice xo0 xl0 xc0,.int .i64 x.a.e,.bool x.b.g,.slice xo1 xl1 xc1,.int .i64 x.b.e] 31)).alloc (.cells #[.bool y.a.g,.slice yo0 yl0 yc0,.int .i64 y.a.e,.bool y.b.g,.slice yo1 yl1 yc1,.int .i64 y.b.e] 31)).alloc (.cells #[.bool false,.slice none 0 0,.int .i64 0,.bool false,.slice none 0 0,.int .i64 0] 31)):=by go_grown
 replace xn0:=xn0.keep HB
 replace xn1:=xn1.keep HB
 replace yn0:=yn0.keep HB
 replace yn1:=yn1.keep HB
 simp only [World.size_alloc] at Xy R B
 go_enter Tryz.func37,Tryz.ntmps37
 go_upto_region 1 with fail
 generalize (((w.alloc (.cells #[.bool x.a.g,.slice xo0 xl0 xc0,.int .i64 x.a.e,.bool x.b.g,.slice xo1 xl1 xc1,.int .i64 x.b.e] 31)).alloc (.cells #[.bool y.a.g,.slice yo0 yl0 yc0,.int .i64 y.a.e,.bool y.b.g,.slice yo1 yl1 yc1,.int .i64 y.b.e] 31)).alloc (.cells #[.bool false,.slice none 0 0,.int .i64 0,.bool false,.slice none 0 0,.int .i64 0] 31))=V1 at *
 have HD:Below V1.heap.size V1 V1.drew:=(Below.refl _ _).drew
 replace Xx:=Xx.keep HD
 replace Xy:=Xy.keep HD
 replace R:=R.keep HD
 replace B:=B.keep HD
 replace xn0:=xn0.keep HD
 replace xn1:=xn1.keep HD
 replace yn0:=yn0.keep HD
 replace yn1:=yn1.keep HD
 replace HB:=later HB HD
 clear HD
 have nex:w.heap.size≠w.heap.size+1+1:=by omega
 have ney:w.heap.size+1≠w.heap.size+1+1:=by omega
 go_region_held3 (fun w'=>w'.cell? ⟨w.heap.size,0,none⟩=some (.bool x.a.g)∧w'.cell? ⟨w.heap.size,1,none⟩=some (.slice xo0 xl0 xc0)∧w'.cell? ⟨w.heap.size,2,none⟩=some (.int .i64 x.a.e)∧w'.cell? ⟨w.heap.size,3,none⟩=some (.bool x.b.g)∧w'.cell? ⟨w.heap.size,4,none⟩=some (.slice xo1 xl1 xc1)∧w'.cell? ⟨w.heap.size,5,none⟩=some (.int .i64 x.b.e)∧w'.cell? ⟨w.heap.size+1,0,none⟩=some (.bool y.a.g)∧w'.cell? ⟨w.heap.size+1,1,none⟩=some (.slice yo0 yl0 yc0)∧w'.cell? ⟨w.heap.size+1,2,none⟩=some (.int .i64 y.a.e)∧w'.cell? ⟨w.heap.size+1,3,none⟩=some (.bool y.b.g)∧w'.cell? ⟨w.heap.size+1,4,none⟩=some (.slice yo1 yl1 yc1)∧w'.cell? ⟨w.heap.size+1,5,none⟩=some (.int .i64 y.b.e)) (first | with_reducible exact⟨Xx.c0,Xx.c1,Xx.c2,Xx.c3,Xx.c4,Xx.c5,Xy.c0,Xy.c1,Xy.c2,Xy.c3,Xy.c4,Xy.c5⟩ | with_reducible exact⟨far6 nex Xx.c0,far6 nex Xx.c1,far6 nex Xx.c2,far6 nex Xx.c3,far6 nex Xx.c4,far6 nex Xx.c5,far6 ney Xy.c0,far6 ney Xy.c1,far6 ney Xy.c2,far6 ney Xy.c3,far6 ney Xy.c4,far6 ney Xy.c5⟩ | go_keep)
   (first
     | (go_at_call_of 86 (Value.agg #[.bool x.a.g,.slice xo0 xl0 xc0,.int .i64 x.a.e]);with_reducible refine (sum_m xn0 yn0 sx0 sy0).mono ?_;rintro _ Wm1 ⟨⟨vm1,rfl,m1⟩,hb1⟩;obtain⟨m1o,m1l,m1c,rfl, -, -⟩:=m1.shape;replace Xx:=Xx.keep hb1;replace Xy:=Xy.keep hb1;replace R:=R.keep hb1;replace B:=B.keep hb1;replace xn0:=xn0.keep hb1;replace xn1:=xn1.keep hb1;replace yn0:=yn0.keep hb1;replace yn1:=yn1.keep hb1;replace HB:=later HB hb1;clear hb1)
     | (go_at_call_of 86 (Value.agg #[.bool x.b.g,.slice xo1 xl1 xc1,.int .i64 x.b.e]);with_reducible refine (sum_m xn1 yn1 sx1 sy1).mono ?_;rintro _ Wm2 ⟨⟨vm2,rfl,m2⟩,hb1⟩;obtain⟨m2o,m2l,m2c,rfl, -, -⟩:=m2.shape;replace Xx:=Xx.keep hb1;replace Xy:=Xy.keep hb1;replace R:=R.keep hb1;replace B:=B.keep hb1;replace xn0:=xn0.keep hb1;replace xn1:=xn1.keep hb1;replace yn0:=yn0.keep hb1;replace yn1:=yn1.keep hb1;replace m1:=m1.keep hb1;replace HB:=later HB hb1;clear hb1)
     | (go_at_call 85;with_reducible refine (pair_m m1 m2 s1 s2).mono ?_;rintro _ Wpp ⟨⟨vpp,rfl,pp⟩,hb1⟩;obtain⟨ppo0,ppl0,ppc0,ppo1,ppl1,ppc1,rfl, -, -⟩:=pp.shape;replace Xx:=Xx.keep hb1;replace Xy:=Xy.keep hb1;replace R:=R.keep hb1;replace B:=B.keep hb1;replace xn0:=xn0.keep hb1;replace xn1:=xn1.keep hb1;replace yn0:=yn0.keep hb1;replace yn1:=yn1.keep hb1;replace m1:=m1.keep hb1;replace m2:=m2.keep hb1;replace HB:=later HB hb1;clear hb1;obtain⟨r0,r1,r2,r3,r4,r5,g0,g1,g2,g3,g4,g5,rl⟩:=id R))
 all_goals
   go_wp2_with fail
   refine bodyPost_ret (v:=.agg #[.bool (pairX (sumX x.a y.a) (sumX x.b y.b)).a.g,.slice ppo0 ppl0 ppc0,.int .i64 (pairX (sumX x.a y.a) (sumX x.b y.b)).a.e,.bool (pairX (sumX x.a y.a) (sumX x.b y.b)).b.g,.slice ppo1 ppl1 ppc1,.int .i64 (pairX (sumX x.a y.a) (sumX x.b y.b)).b.e]) (by simp [results,Tryz.results37,go_sem, *]) rfl ⟨⟨_,rfl, ?_⟩, ?_⟩
   · have hp:=pp
     repeat' (first | (with_reducible exact hp) | (with_reducible exact B) | (with_reducible refine PI.put ?_ ?_ _ _) | (with_reducible refine Boxed.set ?_ _ _ _))
   · repeat' (first | (with_reducible exact HB) | (with_reducible refine Below.setCell ?_ ?_ _) | go_size)
end Go.Proofs.YtopfabemfbdccaaGreat
