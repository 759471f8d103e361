/- ElemMade: the law's walk, with what its callees answer as letters. -/
import Derived.Test.YtopfabemfbdccaaGreatZe44
import Derived.Test.YtopfabemfbdccaaGreatZe28
import Derived.Test.YtopfabemfbdccaaGreatZe43
namespace Go.Proofs.YtopfabemfbdccaaGreat
open Go.ChangeShapes Go.WideShapes Go.ChangeAt Go.RowKit
def ElA (w:World) (b:Nat) (v0 v1 v2 v3 v4 v5 v6 v7:Value):Prop:=w.cell? ⟨b,0,none⟩=some v0∧w.cell? ⟨b,1,none⟩=some v1∧w.cell? ⟨b,2,none⟩=some v2∧w.cell? ⟨b,3,none⟩=some v3∧w.cell? ⟨b,4,none⟩=some v4∧w.cell? ⟨b,5,none⟩=some v5∧w.cell? ⟨b,6,none⟩=some v6∧w.cell? ⟨b,7,none⟩=some v7∧b<w.heap.size
theorem ElA.keep {w W:World} {b:Nat} {v0 v1 v2 v3 v4 v5 v6 v7:Value} (h:ElA w b v0 v1 v2 v3 v4 v5 v6 v7) (k:Below w.heap.size w W):ElA W b v0 v1 v2 v3 v4 v5 v6 v7:=by
 obtain⟨h0,h1,h2,h3,h4,h5,h6,h7,hl⟩:=h
 exact⟨keepsC k h0 hl,keepsC k h1 hl,keepsC k h2 hl,keepsC k h3 hl,keepsC k h4 hl,keepsC k h5 hl,keepsC k h6 hl,keepsC k h7 hl,Nat.lt_of_lt_of_le hl k.size⟩
def ElB (w:World) (b:Nat) (v0 v1 v2 v3 v4 v5 v6 v7:Value):Prop:=w.cell? ⟨b,8,none⟩=some v0∧w.cell? ⟨b,9,none⟩=some v1∧w.cell? ⟨b,10,none⟩=some v2∧w.cell? ⟨b,11,none⟩=some v3∧w.cell? ⟨b,12,none⟩=some v4∧w.cell? ⟨b,13,none⟩=some v5∧w.cell? ⟨b,14,none⟩=some v6∧w.cell? ⟨b,15,none⟩=some v7∧b<w.heap.size
theorem ElB.keep {w W:World} {b:Nat} {v0 v1 v2 v3 v4 v5 v6 v7:Value} (h:ElB w b v0 v1 v2 v3 v4 v5 v6 v7) (k:Below w.heap.size w W):ElB W b v0 v1 v2 v3 v4 v5 v6 v7:=by
 obtain⟨h0,h1,h2,h3,h4,h5,h6,h7,hl⟩:=h
 exact⟨keepsC k h0 hl,keepsC k h1 hl,keepsC k h2 hl,keepsC k h3 hl,keepsC k h4 hl,keepsC k h5 hl,keepsC k h6 hl,keepsC k h7 hl,Nat.lt_of_lt_of_le hl k.size⟩
set_option maxRecDepth 4000 in
set_option maxHeartbeats 16000000 in
theorem made_core {x p1 p2 half one two up ne dn sn cs tn df sh su ch ax ex bb q th:Nat×Nat} {P L:Pr}
   (cp:∀w,Calls Tryz.prog 5 #[] w fun e w'=>e=.returned (.agg #[.float .f64 p1.1,.float .f64 p1.2])∧Below w.heap.size w w')
   (cl:∀w,Calls Tryz.prog 7 #[] w fun e w'=>e=.returned (.agg #[.float .f64 p2.1,.float .f64 p2.2])∧Below w.heap.size w w')
   (rp:∀w,Calls Tryz.prog 6 #[] w fun r w'=>(∃v,r=.returned v∧PI w' v P)∧Below w.heap.size w w')
   (rl:∀w,Calls Tryz.prog 8 #[] w fun r w'=>(∃v,r=.returned v∧PI w' v L)∧Below w.heap.size w w')
   (na1:∀w v,PI w v P→Calls Tryz.prog 9 #[.float .f64 p1.1,v] w fun r w'=>r=.returned (.bool true)∧Below w.heap.size w w')
   (nb1:∀w v,PI w v P→Calls Tryz.prog 10 #[.float .f64 p1.2,v] w fun r w'=>r=.returned (.bool true)∧Below w.heap.size w w')
   (nx1:∀w,Calls Tryz.prog 11 #[.float .f64 p1.1] w fun e w'=>e=.returned (.float .f64 p1.2)∧w=w')
   (na2:∀w v,PI w v L→Calls Tryz.prog 9 #[.float .f64 p2.1,v] w fun r w'=>r=.returned (.bool true)∧Below w.heap.size w w')
   (nb2:∀w v,PI w v L→Calls Tryz.prog 10 #[.float .f64 p2.2,v] w fun r w'=>r=.returned (.bool true)∧Below w.heap.size w w')
   (nx2:∀w,Calls Tryz.prog 11 #[.float .f64 p2.1] w fun e w'=>e=.returned (.float .f64 p2.2)∧w=w')
   (q1:(FloatKind.f64.format.order p1.2 p1.2 != some .eq)=false)
   (q2:(FloatKind.f64.format.order p2.2 p2.2 != some .eq)=false)
   (mh:∀w,Calls Tryz.prog 12 #[.float .f64 4602678819172646912,.float .f64 4602678819172646912] w fun e w'=>e=.returned (.agg #[.float .f64 half.1,.float .f64 half.2])∧Below w.heap.size w w')
   (mo:∀w,Calls Tryz.prog 12 #[.float .f64 4607182418800017408,.float .f64 4607182418800017408] w fun e w'=>e=.returned (.agg #[.float .f64 one.1,.float .f64 one.2])∧Below w.heap.size w w')
   (mt:∀w,Calls Tryz.prog 12 #[.float .f64 4611686018427387904,.float .f64 4611686018427387904] w fun e w'=>e=.returned (.agg #[.float .f64 two.1,.float .f64 two.2])∧Below w.heap.size w w')
   (e1:∀w,Calls Tryz.prog 13 #[.agg #[.float .f64 x.1,.float .f64 x.2]] w fun e w'=>e=.returned (.agg #[.float .f64 up.1,.float .f64 up.2])∧Below w.heap.size w w')
   (n1:∀w,Calls Tryz.prog 14 #[.agg #[.float .f64 x.1,.float .f64 x.2]] w fun e w'=>e=.returned (.agg #[.float .f64 ne.1,.float .f64 ne.2])∧Below w.heap.size w w')
   (e2:∀w,Calls Tryz.prog 13 #[.agg #[.float .f64 ne.1,.float .f64 ne.2]] w fun e w'=>e=.returned (.agg #[.float .f64 dn.1,.float .f64 dn.2])∧Below w.heap.size w w')
   (k1:∀w,Calls Tryz.prog 16 #[.agg #[.float .f64 x.1,.float .f64 x.2]] w fun e w'=>e=.returned (.agg #[.float .f64 tn.1,.float .f64 tn.2])∧Below w.heap.size w w')
   (k2:∀w,Calls Tryz.prog 18 #[.agg #[.float .f64 x.1,.float .f64 x.2]] w fun e w'=>e=.returned (.agg #[.float .f64 sn.1,.float .f64 sn.2])∧Below w.heap.size w w')
   (k3:∀w,Calls Tryz.prog 19 #[.agg #[.float .f64 x.1,.float .f64 x.2]] w fun e w'=>e=.returned (.agg #[.float .f64 cs.1,.float .f64 cs.2])∧Below w.heap.size w w')
   (k4:∀w,Calls Tryz.prog 17 #[.agg #[.float .f64 sn.1,.float .f64 sn.2],.agg #[.float .f64 cs.1,.float .f64 cs.2]] w fun e w'=>e=.returned (.agg #[.float .f64 tn.1,.float .f64 tn.2])∧Below w.heap.size w w')
   (s1':∀w,Calls Tryz.prog 15 #[.agg #[.float .f64 tn.1,.float .f64 tn.2],.agg #[.float .f64 tn.1,.float .f64 tn.2]] w fun e w'=>e=.returned (.bool true)∧Below w.heap.size w w')
   (k5:∀w,Calls Tryz.prog 20 #[.agg #[.float .f64 x.1,.float .f64 x.2]] w fun e w'=>e=.returned (.agg #[.float .f64 sh.1,.float .f64 sh.2])∧Below w.heap.size w w')
   (k6:∀w,Calls Tryz.prog 22 #[.agg #[.float .f64 up.1,.float .f64 up.2],.agg #[.float .f64 dn.1,.float .f64 dn.2]] w fun e w'=>e=.returned (.agg #[.float .f64 df.1,.float .f64 df.2])∧Below w.heap.size w w')
   (k7:∀w,Calls Tryz.prog 21 #[.agg #[.float .f64 half.1,.float .f64 half.2],.agg #[.float .f64 df.1,.float .f64 df.2]] w fun e w'=>e=.returned (.agg #[.float .f64 sh.1,.float .f64 sh.2])∧Below w.heap.size w w')
   (s2':∀w,Calls Tryz.prog 15 #[.agg #[.float .f64 sh.1,.float .f64 sh.2],.agg #[.float .f64 sh.1,.float .f64 sh.2]] w fun e w'=>e=.returned (.bool true)∧Below w.heap.size w w')
   (k8:∀w,Calls Tryz.prog 23 #[.agg #[.float .f64 x.1,.float .f64 x.2]] w fun e w'=>e=.returned (.agg #[.float .f64 ch.1,.float .f64 ch.2])∧Below w.heap.size w w')
   (k9:∀w,Calls Tryz.prog 24 #[.agg #[.float .f64 up.1,.float .f64 up.2],.agg #[.float .f64 dn.1,.float .f64 dn.2]] w fun e w'=>e=.returned (.agg #[.float .f64 su.1,.float .f64 su.2])∧Below w.heap.size w w')
   (ka:∀w,Calls Tryz.prog 21 #[.agg #[.float .f64 half.1,.float .f64 half.2],.agg #[.float .f64 su.1,.float .f64 su.2]] w fun e w'=>e=.returned (.agg #[.float .f64 ch.1,.float .f64 ch.2])∧Below w.heap.size w w')
   (s3':∀w,Calls Tryz.prog 15 #[.agg #[.float .f64 ch.1,.float .f64 ch.2],.agg #[.float .f64 ch.1,.float .f64 ch.2]] w fun e w'=>e=.returned (.bool true)∧Below w.heap.size w w')
   (kb:∀w,Calls Tryz.prog 25 #[.agg #[.float .f64 x.1,.float .f64 x.2]] w fun e w'=>e=.returned (.agg #[.float .f64 th.1,.float .f64 th.2])∧Below w.heap.size w w')
   (kc:∀w,Calls Tryz.prog 24 #[.agg #[.float .f64 x.1,.float .f64 x.2],.agg #[.float .f64 x.1,.float .f64 x.2]] w fun e w'=>e=.returned (.agg #[.float .f64 ax.1,.float .f64 ax.2])∧Below w.heap.size w w')
   (kd:∀w,Calls Tryz.prog 13 #[.agg #[.float .f64 ax.1,.float .f64 ax.2]] w fun e w'=>e=.returned (.agg #[.float .f64 ex.1,.float .f64 ex.2])∧Below w.heap.size w w')
   (ke:∀w,Calls Tryz.prog 24 #[.agg #[.float .f64 ex.1,.float .f64 ex.2],.agg #[.float .f64 one.1,.float .f64 one.2]] w fun e w'=>e=.returned (.agg #[.float .f64 bb.1,.float .f64 bb.2])∧Below w.heap.size w w')
   (kf:∀w,Calls Tryz.prog 17 #[.agg #[.float .f64 two.1,.float .f64 two.2],.agg #[.float .f64 bb.1,.float .f64 bb.2]] w fun e w'=>e=.returned (.agg #[.float .f64 q.1,.float .f64 q.2])∧Below w.heap.size w w')
   (kg:∀w,Calls Tryz.prog 22 #[.agg #[.float .f64 one.1,.float .f64 one.2],.agg #[.float .f64 q.1,.float .f64 q.2]] w fun e w'=>e=.returned (.agg #[.float .f64 th.1,.float .f64 th.2])∧Below w.heap.size w w')
   (s4':∀w,Calls Tryz.prog 15 #[.agg #[.float .f64 th.1,.float .f64 th.2],.agg #[.float .f64 th.1,.float .f64 th.2]] w fun e w'=>e=.returned (.bool true)∧Below w.heap.size w w') (w:World) :
   Calls Tryz.prog 3 #[.agg #[.float .f64 x.1,.float .f64 x.2]] w fun r w'=>r=.returned (.bool true)∧Below w.heap.size w w':=by
 have X:=has2_new w (.float .f64 x.1) (.float .f64 x.2) 24
 have HB:Below w.heap.size w (w.alloc (.cells #[.float .f64 x.1,.float .f64 x.2] 24)):=by go_grown
 go_enter Tryz.func3,Tryz.ntmps3
 go_upto_region 1 with fail
 generalize (w.alloc (.cells #[.float .f64 x.1,.float .f64 x.2] 24))=V1 at *
 go_wp2_with (first
   | (go_at_call 5;(with_reducible refine (cp _).mono ?_);rintro _ V2 ⟨rfl,hb1⟩;replace HB:=later HB hb1;replace X:=X.keep hb1;clear hb1)
   | (go_at_call 6;(with_reducible refine (rp _).mono ?_);rintro _ V3 ⟨⟨v3,rfl,nP⟩,hb1⟩;obtain⟨po,pl,pc,pp,pk,pd,rfl, -, -⟩:=id nP.shape;replace HB:=later HB hb1;replace X:=X.keep hb1;clear hb1)
   | (go_at_call 7;(with_reducible refine (cl _).mono ?_);rintro _ V5 ⟨rfl,hb1⟩;replace HB:=later HB hb1;replace X:=X.keep hb1;replace nP:=nP.keep hb1;clear hb1)
   | (go_at_call 8;(with_reducible refine (rl _).mono ?_);rintro _ V6 ⟨⟨v6,rfl,nL⟩,hb1⟩;obtain⟨lo,ll,lc,lp,lk,ld,rfl, -, -⟩:=id nL.shape;replace HB:=later HB hb1;replace X:=X.keep hb1;replace nP:=nP.keep hb1;clear hb1))
 have A:ElA (V6.alloc (.cells #[.float .f64 p1.1,.float .f64 p1.2,.bool P.a.g,.slice po pl pc,.int .i64 P.a.e,.bool P.b.g,.slice pp pk pd,.int .i64 P.b.e,.float .f64 p2.1,.float .f64 p2.2,.bool L.a.g,.slice lo ll lc,.int .i64 L.a.e,.bool L.b.g,.slice lp lk ld,.int .i64 L.b.e] 33)) V6.heap.size (.float .f64 p1.1) (.float .f64 p1.2) (.bool P.a.g) (.slice po pl pc) (.int .i64 P.a.e) (.bool P.b.g) (.slice pp pk pd) (.int .i64 P.b.e):=⟨by go_simp,by go_simp,by go_simp,by go_simp,by go_simp,by go_simp,by go_simp,by go_simp,by go_size⟩
 have B:ElB (V6.alloc (.cells #[.float .f64 p1.1,.float .f64 p1.2,.bool P.a.g,.slice po pl pc,.int .i64 P.a.e,.bool P.b.g,.slice pp pk pd,.int .i64 P.b.e,.float .f64 p2.1,.float .f64 p2.2,.bool L.a.g,.slice lo ll lc,.int .i64 L.a.e,.bool L.b.g,.slice lp lk ld,.int .i64 L.b.e] 33)) V6.heap.size (.float .f64 p2.1) (.float .f64 p2.2) (.bool L.a.g) (.slice lo ll lc) (.int .i64 L.a.e) (.bool L.b.g) (.slice lp lk ld) (.int .i64 L.b.e):=⟨by go_simp,by go_simp,by go_simp,by go_simp,by go_simp,by go_simp,by go_simp,by go_simp,by go_size⟩
 have hb1:Below V6.heap.size V6 (V6.alloc (.cells #[.float .f64 p1.1,.float .f64 p1.2,.bool P.a.g,.slice po pl pc,.int .i64 P.a.e,.bool P.b.g,.slice pp pk pd,.int .i64 P.b.e,.float .f64 p2.1,.float .f64 p2.2,.bool L.a.g,.slice lo ll lc,.int .i64 L.a.e,.bool L.b.g,.slice lp lk ld,.int .i64 L.b.e] 33)):=by go_grown
 replace HB:=later HB hb1;replace X:=X.keep hb1;replace nP:=nP.keep hb1;replace nL:=nL.keep hb1;clear hb1
 clear cp cl rp rl
 generalize V6.alloc (.cells #[.float .f64 p1.1,.float .f64 p1.2,.bool P.a.g,.slice po pl pc,.int .i64 P.a.e,.bool P.b.g,.slice pp pk pd,.int .i64 P.b.e,.float .f64 p2.1,.float .f64 p2.2,.bool L.a.g,.slice lo ll lc,.int .i64 L.a.e,.bool L.b.g,.slice lp lk ld,.int .i64 L.b.e] 33)=V7 at *
 generalize V6.heap.size=sb at *
 go_loopg [18] 2 (fun G s18 wx=>∃i:Nat,s18=.int .i64 (i:Int)∧i+G=2∧Below w.heap.size w wx∧Has2 wx w.heap.size (.float .f64 x.1) (.float .f64 x.2)∧ElA wx sb (.float .f64 p1.1) (.float .f64 p1.2) (.bool P.a.g) (.slice po pl pc) (.int .i64 P.a.e) (.bool P.b.g) (.slice pp pk pd) (.int .i64 P.b.e)∧ElB wx sb (.float .f64 p2.1) (.float .f64 p2.2) (.bool L.a.g) (.slice lo ll lc) (.int .i64 L.a.e) (.bool L.b.g) (.slice lp lk ld) (.int .i64 L.b.e)∧PI wx (.agg #[.bool P.a.g,.slice po pl pc,.int .i64 P.a.e,.bool P.b.g,.slice pp pk pd,.int .i64 P.b.e]) P∧PI wx (.agg #[.bool L.a.g,.slice lo ll lc,.int .i64 L.a.e,.bool L.b.g,.slice lp lk ld,.int .i64 L.b.e]) L)
 case atStart=>exact⟨0,rfl,by omega,HB,X,A,B,nP,nL⟩
 case round =>
   clear HB X A B nP nL
   obtain⟨i,rfl,hik,HB,X,A,B,nP,nL⟩:=hrel
   have c3:i=0∨i=1∨i=2:=by omega
   rcases c3 with c | c | c
   · subst c
     obtain⟨a0,a1,a2,a3,a4,a5,a6,a7,al⟩:=id A
     go_upto_region 4 with fail
     clear a0 a1 a2 a3 a4 a5 a6 a7 al
     have E:ElA (wr.alloc (.cells #[.float .f64 p1.1,.float .f64 p1.2,.bool P.a.g,.slice po pl pc,.int .i64 P.a.e,.bool P.b.g,.slice pp pk pd,.int .i64 P.b.e] 33)) wr.heap.size (.float .f64 p1.1) (.float .f64 p1.2) (.bool P.a.g) (.slice po pl pc) (.int .i64 P.a.e) (.bool P.b.g) (.slice pp pk pd) (.int .i64 P.b.e):=⟨by go_simp,by go_simp,by go_simp,by go_simp,by go_simp,by go_simp,by go_simp,by go_simp,by go_size⟩
     have hb1:Below wr.heap.size wr (wr.alloc (.cells #[.float .f64 p1.1,.float .f64 p1.2,.bool P.a.g,.slice po pl pc,.int .i64 P.a.e,.bool P.b.g,.slice pp pk pd,.int .i64 P.b.e] 33)):=by go_grown
     replace HB:=later HB hb1;replace X:=X.keep hb1;replace A:=A.keep hb1;replace B:=B.keep hb1;replace nP:=nP.keep hb1;replace nL:=nL.keep hb1;clear hb1
     generalize (wr.alloc (.cells #[.float .f64 p1.1,.float .f64 p1.2,.bool P.a.g,.slice po pl pc,.int .i64 P.a.e,.bool P.b.g,.slice pp pk pd,.int .i64 P.b.e] 33))=V4 at *
     generalize wr.heap.size=pb at *
     obtain⟨a0,a1,a2,a3,a4,a5,a6,a7,al⟩:=id E
     have m1:=fun n:Behind V4=>na1 n.W _ (nP.keep n.bel)
     have m2:=fun n:Behind V4=>nb1 n.W _ (nP.keep n.bel)
     have m3:=nx1
     have m4:=q1
     have z0:=fun n:Behind V4=>n.cell a0 al;have z1:=fun n:Behind V4=>n.cell a1 al;have z2:=fun n:Behind V4=>n.cell a2 al;have z3:=fun n:Behind V4=>n.cell a3 al;have z4:=fun n:Behind V4=>n.cell a4 al;have z5:=fun n:Behind V4=>n.cell a5 al;have z6:=fun n:Behind V4=>n.cell a6 al;have z7:=fun n:Behind V4=>n.cell a7 al
     clear a0 a1 a2 a3 a4 a5 a6 a7 al E
     refine region_behind (by kernel_rfl) (by kernel_rfl) ?_
     repeat (go_big_quiet_step (first
       | (go_at_call 9;with_reducible refine Behind.call (m1 _))
       | (go_at_call 10;with_reducible refine Behind.call (m2 _))
       | (go_at_call 11;with_reducible refine Behind.same (m3 _))))
     refine wpQuiet_nil ?_
     rintro _ ⟨m,rfl⟩
     obtain⟨W,hb1⟩:=m
     dsimp only
     replace HB:=later HB hb1;replace X:=X.keep hb1;replace A:=A.keep hb1;replace B:=B.keep hb1;replace nP:=nP.keep hb1;replace nL:=nL.keep hb1
     clear hb1 z0 z1 z2 z3 z4 z5 z6 z7 m1 m2 m3
     go_wp2_with fail
     (go_roundg 1
      case measure=>omega
      case rel=>exact⟨1,by go_num,by omega,HB,X,A,B,nP,nL⟩)
   · subst c
     obtain⟨a0,a1,a2,a3,a4,a5,a6,a7,al⟩:=id B
     go_upto_region 4 with fail
     clear a0 a1 a2 a3 a4 a5 a6 a7 al
     have E:ElA (wr.alloc (.cells #[.float .f64 p2.1,.float .f64 p2.2,.bool L.a.g,.slice lo ll lc,.int .i64 L.a.e,.bool L.b.g,.slice lp lk ld,.int .i64 L.b.e] 33)) wr.heap.size (.float .f64 p2.1) (.float .f64 p2.2) (.bool L.a.g) (.slice lo ll lc) (.int .i64 L.a.e) (.bool L.b.g) (.slice lp lk ld) (.int .i64 L.b.e):=⟨by go_simp,by go_simp,by go_simp,by go_simp,by go_simp,by go_simp,by go_simp,by go_simp,by go_size⟩
     have hb1:Below wr.heap.size wr (wr.alloc (.cells #[.float .f64 p2.1,.float .f64 p2.2,.bool L.a.g,.slice lo ll lc,.int .i64 L.a.e,.bool L.b.g,.slice lp lk ld,.int .i64 L.b.e] 33)):=by go_grown
     replace HB:=later HB hb1;replace X:=X.keep hb1;replace A:=A.keep hb1;replace B:=B.keep hb1;replace nP:=nP.keep hb1;replace nL:=nL.keep hb1;clear hb1
     generalize (wr.alloc (.cells #[.float .f64 p2.1,.float .f64 p2.2,.bool L.a.g,.slice lo ll lc,.int .i64 L.a.e,.bool L.b.g,.slice lp lk ld,.int .i64 L.b.e] 33))=V4 at *
     generalize wr.heap.size=pb at *
     obtain⟨a0,a1,a2,a3,a4,a5,a6,a7,al⟩:=id E
     have m1:=fun n:Behind V4=>na2 n.W _ (nL.keep n.bel)
     have m2:=fun n:Behind V4=>nb2 n.W _ (nL.keep n.bel)
     have m3:=nx2
     have m4:=q2
     have z0:=fun n:Behind V4=>n.cell a0 al;have z1:=fun n:Behind V4=>n.cell a1 al;have z2:=fun n:Behind V4=>n.cell a2 al;have z3:=fun n:Behind V4=>n.cell a3 al;have z4:=fun n:Behind V4=>n.cell a4 al;have z5:=fun n:Behind V4=>n.cell a5 al;have z6:=fun n:Behind V4=>n.cell a6 al;have z7:=fun n:Behind V4=>n.cell a7 al
     clear a0 a1 a2 a3 a4 a5 a6 a7 al E
     refine region_behind (by kernel_rfl) (by kernel_rfl) ?_
     repeat (go_big_quiet_step (first
       | (go_at_call 9;with_reducible refine Behind.call (m1 _))
       | (go_at_call 10;with_reducible refine Behind.call (m2 _))
       | (go_at_call 11;with_reducible refine Behind.same (m3 _))))
     refine wpQuiet_nil ?_
     rintro _ ⟨m,rfl⟩
     obtain⟨W,hb1⟩:=m
     dsimp only
     replace HB:=later HB hb1;replace X:=X.keep hb1;replace A:=A.keep hb1;replace B:=B.keep hb1;replace nP:=nP.keep hb1;replace nL:=nL.keep hb1
     clear hb1 z0 z1 z2 z3 z4 z5 z6 z7 m1 m2 m3
     go_wp2_with fail
     (go_roundg 0
      case measure=>omega
      case rel=>exact⟨2,by go_num,by omega,HB,X,A,B,nP,nL⟩)
   · subst c
     clear A B nP nL na1 nb1 nx1 na2 nb2 nx2 q1 q2
     go_upto_region 8 with (first | (go_at_call 12;(with_reducible refine (mh _).mono ?_);rintro _ VV ⟨rfl,hb1⟩;replace HB:=later HB hb1;replace X:=X.keep hb1;clear hb1) | (go_at_call 12;(with_reducible refine (mo _).mono ?_);rintro _ VV ⟨rfl,hb1⟩;replace HB:=later HB hb1;replace X:=X.keep hb1;clear hb1) | (go_at_call 12;(with_reducible refine (mt _).mono ?_);rintro _ VV ⟨rfl,hb1⟩;replace HB:=later HB hb1;replace X:=X.keep hb1;clear hb1))
     clear mh mo mt
     have F1:Has2 (((VV.alloc (.cells #[.float .f64 half.1,.float .f64 half.2] 24)).alloc (.cells #[.float .f64 one.1,.float .f64 one.2] 24)).alloc (.cells #[.float .f64 two.1,.float .f64 two.2] 24)) VV.heap.size (.float .f64 half.1) (.float .f64 half.2):=((has2_new _ _ _ _).alloc _).alloc _
     have F2:Has2 (((VV.alloc (.cells #[.float .f64 half.1,.float .f64 half.2] 24)).alloc (.cells #[.float .f64 one.1,.float .f64 one.2] 24)).alloc (.cells #[.float .f64 two.1,.float .f64 two.2] 24)) (VV.heap.size+1) (.float .f64 one.1) (.float .f64 one.2):=⟨by go_simp,by go_simp,by go_simp,by go_simp,by go_size⟩
     have F3:Has2 (((VV.alloc (.cells #[.float .f64 half.1,.float .f64 half.2] 24)).alloc (.cells #[.float .f64 one.1,.float .f64 one.2] 24)).alloc (.cells #[.float .f64 two.1,.float .f64 two.2] 24)) (VV.heap.size+1+1) (.float .f64 two.1) (.float .f64 two.2):=⟨by go_simp,by go_simp,by go_simp,by go_simp,by go_size⟩
     have hb1:Below VV.heap.size VV (((VV.alloc (.cells #[.float .f64 half.1,.float .f64 half.2] 24)).alloc (.cells #[.float .f64 one.1,.float .f64 one.2] 24)).alloc (.cells #[.float .f64 two.1,.float .f64 two.2] 24)):=by go_grown
     replace HB:=later HB hb1;replace X:=X.keep hb1;clear hb1
     generalize (((VV.alloc (.cells #[.float .f64 half.1,.float .f64 half.2] 24)).alloc (.cells #[.float .f64 one.1,.float .f64 one.2] 24)).alloc (.cells #[.float .f64 two.1,.float .f64 two.2] 24))=V7 at *
     generalize VV.heap.size=hb at *
     apply tail_alloc2 5 (by kernel_rfl) (by kernel_rfl) rfl rfl (by decide)
     · intro W1 hW
       replace X:=X.keep hW
       have kX0:=fun n:Behind W1=>n.cell X.1 X.2.2.2.2;have kX1:=fun n:Behind W1=>n.cell X.2.1 X.2.2.2.2
       simp only [List.take_succ_cons,List.take_zero]
       repeat (go_big_quiet_step (first | (go_at_call 13;with_reducible refine Behind.call (e1 _)) | (go_at_call 14;with_reducible refine Behind.call (n1 _)) | (go_at_call 13;with_reducible refine Behind.call (e2 _))))
       exact wpQuiet_nil rfl
     · intro b c W hb1 hc hbc B C hb2
       have s1:=X.2.2.2.2
       have s2:=F1.2.2.2.2
       have s3:=F2.2.2.2.2
       have s4:=F3.2.2.2.2
       have sHB:=HB.size
       replace X:=X.keep hb2;replace F1:=F1.keep hb2;replace F2:=F2.keep hb2;replace F3:=F3.keep hb2;replace HB:=later HB hb2
       have F4:=(B.put (.float .f64 up.1) (.float .f64 up.2)).far (Ne.symm hbc) (.float .f64 dn.1) (.float .f64 dn.2)
       have F5:=(C.far hbc (.float .f64 up.1) (.float .f64 up.2)).put (.float .f64 dn.1) (.float .f64 dn.2)
       replace X:=(X.far (c:=b) (by omega) (.float .f64 up.1) (.float .f64 up.2)).far (c:=c) (by omega) (.float .f64 dn.1) (.float .f64 dn.2)
       replace F1:=(F1.far (c:=b) (by omega) (.float .f64 up.1) (.float .f64 up.2)).far (c:=c) (by omega) (.float .f64 dn.1) (.float .f64 dn.2)
       replace F2:=(F2.far (c:=b) (by omega) (.float .f64 up.1) (.float .f64 up.2)).far (c:=c) (by omega) (.float .f64 dn.1) (.float .f64 dn.2)
       replace F3:=(F3.far (c:=b) (by omega) (.float .f64 up.1) (.float .f64 up.2)).far (c:=c) (by omega) (.float .f64 dn.1) (.float .f64 dn.2)
       replace HB:Below w.heap.size w ((((W.setCell ⟨b,0,none⟩ (.float .f64 up.1)).setCell ⟨b,1,none⟩ (.float .f64 up.2)).setCell ⟨c,0,none⟩ (.float .f64 dn.1)).setCell ⟨c,1,none⟩ (.float .f64 dn.2)):=(((HB.setCell (by simp;omega) _).setCell (by simp;omega) _).setCell (by simp;omega) _).setCell (by simp;omega) _
       obtain⟨b0,b1,b2,b3,b4⟩:=id B
       obtain⟨a0,a1,a2,a3,a4⟩:=id C
       simp only [List.drop_succ_cons,List.drop_zero,Act.put,List.setIfInBounds_toArray,List.set_cons_succ,List.set_cons_zero]
       go_upto_region 9 with fail
       clear b0 b1 b2 b3 b4 a0 a1 a2 a3 a4 B C e1 n1 e2
       generalize ((((W.setCell ⟨b,0,none⟩ (.float .f64 up.1)).setCell ⟨b,1,none⟩ (.float .f64 up.2)).setCell ⟨c,0,none⟩ (.float .f64 dn.1)).setCell ⟨c,1,none⟩ (.float .f64 dn.2))=V8 at *
       have kX0:=fun n:Behind V8=>n.cell X.1 X.2.2.2.2;have kX1:=fun n:Behind V8=>n.cell X.2.1 X.2.2.2.2;have kF10:=fun n:Behind V8=>n.cell F1.1 F1.2.2.2.2;have kF11:=fun n:Behind V8=>n.cell F1.2.1 F1.2.2.2.2;have kF20:=fun n:Behind V8=>n.cell F2.1 F2.2.2.2.2;have kF21:=fun n:Behind V8=>n.cell F2.2.1 F2.2.2.2.2;have kF30:=fun n:Behind V8=>n.cell F3.1 F3.2.2.2.2;have kF31:=fun n:Behind V8=>n.cell F3.2.1 F3.2.2.2.2;have kF40:=fun n:Behind V8=>n.cell F4.1 F4.2.2.2.2;have kF41:=fun n:Behind V8=>n.cell F4.2.1 F4.2.2.2.2;have kF50:=fun n:Behind V8=>n.cell F5.1 F5.2.2.2.2;have kF51:=fun n:Behind V8=>n.cell F5.2.1 F5.2.2.2.2
       refine region_behind (by kernel_rfl) (by kernel_rfl) ?_
       repeat (go_big_quiet_step (first | (go_at_call 16;with_reducible refine Behind.call (k1 _)) | (go_at_call 18;with_reducible refine Behind.call (k2 _)) | (go_at_call 19;with_reducible refine Behind.call (k3 _)) | (go_at_call 17;with_reducible refine Behind.call (k4 _)) | (go_at_call 15;with_reducible refine Behind.call (s1' _)) | (go_at_call 20;with_reducible refine Behind.call (k5 _)) | (go_at_call 22;with_reducible refine Behind.call (k6 _)) | (go_at_call 21;with_reducible refine Behind.call (k7 _)) | (go_at_call 15;with_reducible refine Behind.call (s2' _)) | (go_at_call 23;with_reducible refine Behind.call (k8 _)) | (go_at_call 24;with_reducible refine Behind.call (k9 _)) | (go_at_call 21;with_reducible refine Behind.call (ka _)) | (go_at_call 15;with_reducible refine Behind.call (s3' _)) | (go_at_call 25;with_reducible refine Behind.call (kb _)) | (go_at_call 24;with_reducible refine Behind.call (kc _)) | (go_at_call 13;with_reducible refine Behind.call (kd _)) | (go_at_call 24;with_reducible refine Behind.call (ke _)) | (go_at_call 17;with_reducible refine Behind.call (kf _)) | (go_at_call 22;with_reducible refine Behind.call (kg _)) | (go_at_call 15;with_reducible refine Behind.call (s4' _))))
       refine wpQuiet_nil ?_
       rintro _ ⟨m,rfl⟩
       obtain⟨W9,hb9⟩:=m
       dsimp only
       replace HB:=later HB hb9
       go_wp2_with fail
       go_ret
       exact⟨rfl,HB⟩
end Go.Proofs.YtopfabemfbdccaaGreat
