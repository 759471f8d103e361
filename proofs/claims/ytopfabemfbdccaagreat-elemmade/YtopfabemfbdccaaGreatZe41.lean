/- The reference's numbers between two: Mul, the walk. The reference's numbers between two: odds, what lies in memory. -/
import Derived.Test.YtopfabemfbdccaaGreatZe40
namespace Go.Proofs.YtopfabemfbdccaaGreat
open Go.ChangeShapes Go.WideShapes Go.ChangeAt Go.RowKit
set_option maxRecDepth 4000 in
set_option maxHeartbeats 4000000 in
theorem mul_m {w:World} {vx vy:Value} {x y:Pr} (hx:PI w vx x) (hy:PI w vy y) (sx:SmP x) (sy:SmP y) (sl:∀i,i≤3→Sm (loS (mulP3 x y) (prodX x.a y.a) i)) (sh:∀i,i≤3→Sm (hiS (mulP3 x y) (prodX x.a y.a) i)) (sp:∀i,i<3→Sm (mulP3 x y i)) :
   Calls Tryz.prog 78 #[vx,vy] w fun r w'=>(∃v,r=.returned v∧PI w' v (mulX x y))∧Below w.heap.size w w':=by
 obtain⟨xo0,xl0,xc0,xo1,xl1,xc1,rfl,xn0,xn1⟩:=hx.shape
 obtain⟨yo0,yl0,yc0,yo1,yl1,yc1,rfl,yn0,yn1⟩:=hy.shape
 obtain⟨sx0,sx1⟩:=sx
 obtain⟨sy0,sy1⟩:=sy
 have SL:Hid (∀i,i≤3→Sm (loS (mulP3 x y) (prodX x.a y.a) i)):=sl
 have SH:Hid (∀i,i≤3→Sm (hiS (mulP3 x y) (prodX x.a y.a) i)):=sh
 have SP:Hid (∀i,i<3→Sm (mulP3 x y i)):=sp
 clear sl sh sp
 have Xx:=((hs6_new w (.bool x.a.g) (.slice xo0 xl0 xc0) (.int .i64 x.a.e) (.bool x.b.g) (.slice xo1 xl1 xc1) (.int .i64 x.b.e) 31).alloc (.cells #[.bool y.a.g,.slice yo0 yl0 yc0,.int .i64 y.a.e,.bool y.b.g,.slice yo1 yl1 yc1,.int .i64 y.b.e] 31)).alloc (.cells #[.bool false,.slice none 0 0,.int .i64 0,.bool false,.slice none 0 0,.int .i64 0] 31)
 have Xy:=(hs6_new (w.alloc (.cells #[.bool x.a.g,.slice xo0 xl0 xc0,.int .i64 x.a.e,.bool x.b.g,.slice xo1 xl1 xc1,.int .i64 x.b.e] 31)) (.bool y.a.g) (.slice yo0 yl0 yc0) (.int .i64 y.a.e) (.bool y.b.g) (.slice yo1 yl1 yc1) (.int .i64 y.b.e) 31).alloc (.cells #[.bool false,.slice none 0 0,.int .i64 0,.bool false,.slice none 0 0,.int .i64 0] 31)
 have R:=hs6_new ((w.alloc (.cells #[.bool x.a.g,.slice xo0 xl0 xc0,.int .i64 x.a.e,.bool x.b.g,.slice xo1 xl1 xc1,.int .i64 x.b.e] 31)).alloc (.cells #[.bool y.a.g,.slice yo0 yl0 yc0,.int .i64 y.a.e,.bool y.b.g,.slice yo1 yl1 yc1,.int .i64 y.b.e] 31)) (.bool false) (.slice none 0 0) (.int .i64 0) (.bool false) (.slice none 0 0) (.int .i64 0) 31
 have B:=Boxed.newP ((w.alloc (.cells #[.bool x.a.g,.slice xo0 xl0 xc0,.int .i64 x.a.e,.bool x.b.g,.slice xo1 xl1 xc1,.int .i64 x.b.e] 31)).alloc (.cells #[.bool y.a.g,.slice yo0 yl0 yc0,.int .i64 y.a.e,.bool y.b.g,.slice yo1 yl1 yc1,.int .i64 y.b.e] 31)) #[.bool false,.slice none 0 0,.int .i64 0,.bool false,.slice none 0 0,.int .i64 0]
 have HB:Below w.heap.size w (((w.alloc (.cells #[.bool x.a.g,.slice xo0 xl0 xc0,.int .i64 x.a.e,.bool x.b.g,.slice xo1 xl1 xc1,.int .i64 x.b.e] 31)).alloc (.cells #[.bool y.a.g,.slice yo0 yl0 yc0,.int .i64 y.a.e,.bool y.b.g,.slice yo1 yl1 yc1,.int .i64 y.b.e] 31)).alloc (.cells #[.bool false,.slice none 0 0,.int .i64 0,.bool false,.slice none 0 0,.int .i64 0] 31)):=by go_grown
 replace xn0:=xn0.keep HB
 replace xn1:=xn1.keep HB
 replace yn0:=yn0.keep HB
 replace yn1:=yn1.keep HB
 simp only [World.size_alloc] at Xy R B
 go_enter Tryz.func78,Tryz.ntmps78
 go_upto_region 1 with fail
 generalize (((w.alloc (.cells #[.bool x.a.g,.slice xo0 xl0 xc0,.int .i64 x.a.e,.bool x.b.g,.slice xo1 xl1 xc1,.int .i64 x.b.e] 31)).alloc (.cells #[.bool y.a.g,.slice yo0 yl0 yc0,.int .i64 y.a.e,.bool y.b.g,.slice yo1 yl1 yc1,.int .i64 y.b.e] 31)).alloc (.cells #[.bool false,.slice none 0 0,.int .i64 0,.bool false,.slice none 0 0,.int .i64 0] 31))=V1 at *
 obtain⟨x0,x1,x2,x3,x4,x5, -, -, -, -, -, -,xl⟩:=id Xx;obtain⟨y0,y1,y2,y3,y4,y5, -, -, -, -, -, -,yl⟩:=id Xy
 go_upto_region 2 with (go_at_call 120;(with_reducible refine (prod_m xn0 yn0 sx0 sy0).mono ?_);rintro _ V2 ⟨⟨v2,rfl,n2⟩,hb1⟩;obtain⟨o2,l2,c2,rfl, -, -⟩:=n2.shape;replace Xx:=Xx.keep hb1;replace Xy:=Xy.keep hb1;replace R:=R.keep hb1;replace B:=B.keep hb1;replace xn0:=xn0.keep hb1;replace xn1:=xn1.keep hb1;replace yn0:=yn0.keep hb1;replace yn1:=yn1.keep hb1;replace HB:=later HB hb1;clear x0 x1 x2 x3 x4 x5 xl y0 y1 y2 y3 y4 y5 yl hb1)
 obtain⟨p0,hp0⟩:∃p0,prodX x.a y.a=p0:=⟨_,rfl⟩
 rw [hp0] at n2 ⊢
 have HP0:Hid (prodX x.a y.a=p0):=hp0
 clear hp0
 go_upto_region 3 with fail
 have L:=(has3_new V2 (.bool p0.g) (.slice o2 l2 c2) (.int .i64 p0.e) 29).alloc (.cells #[.bool p0.g,.slice o2 l2 c2,.int .i64 p0.e] 29)
 have H:=has3_new (V2.alloc (.cells #[.bool p0.g,.slice o2 l2 c2,.int .i64 p0.e] 29)) (.bool p0.g) (.slice o2 l2 c2) (.int .i64 p0.e) 29
 have BL:=(Boxed.new V2 #[.bool p0.g,.slice o2 l2 c2,.int .i64 p0.e]).alloc (.cells #[.bool p0.g,.slice o2 l2 c2,.int .i64 p0.e] 29)
 have BH:=Boxed.new (V2.alloc (.cells #[.bool p0.g,.slice o2 l2 c2,.int .i64 p0.e] 29)) #[.bool p0.g,.slice o2 l2 c2,.int .i64 p0.e]
 simp only [World.size_alloc] at H BH
 have hb1:Below V2.heap.size V2 ((V2.alloc (.cells #[.bool p0.g,.slice o2 l2 c2,.int .i64 p0.e] 29)).alloc (.cells #[.bool p0.g,.slice o2 l2 c2,.int .i64 p0.e] 29)):=by go_grown
 have hbl:w.heap.size+1+1<V2.heap.size:=R.lt
 replace n2:=n2.keep hb1
 replace Xx:=Xx.keep hb1;replace Xy:=Xy.keep hb1;replace R:=R.keep hb1;replace B:=B.keep hb1;replace xn0:=xn0.keep hb1;replace xn1:=xn1.keep hb1;replace yn0:=yn0.keep hb1;replace yn1:=yn1.keep hb1;replace HB:=later HB hb1
 clear hb1
 generalize (V2.alloc (.cells #[.bool p0.g,.slice o2 l2 c2,.int .i64 p0.e] 29)).alloc (.cells #[.bool p0.g,.slice o2 l2 c2,.int .i64 p0.e] 29)=V3 at *
 generalize V2.heap.size=bl at *
 have HD:Below V3.heap.size V3 V3.drew:=(Below.refl _ _).drew
 have hb1:=HD
 replace Xx:=Xx.keep hb1;replace Xy:=Xy.keep hb1;replace R:=R.keep hb1;replace B:=B.keep hb1;replace xn0:=xn0.keep hb1;replace xn1:=xn1.keep hb1;replace yn0:=yn0.keep hb1;replace yn1:=yn1.keep hb1;replace HB:=later HB hb1;replace L:=L.keep hb1;replace H:=H.keep hb1;replace BL:=BL.keep hb1;replace BH:=BH.keep hb1;replace n2:=n2.keep hb1
 clear hb1 HD
 go_region_held3 (fun w'=>w'.cell? ⟨w.heap.size,0,none⟩=some (.bool x.a.g)∧w'.cell? ⟨w.heap.size,1,none⟩=some (.slice xo0 xl0 xc0)∧w'.cell? ⟨w.heap.size,2,none⟩=some (.int .i64 x.a.e)∧w'.cell? ⟨w.heap.size,3,none⟩=some (.bool x.b.g)∧w'.cell? ⟨w.heap.size,4,none⟩=some (.slice xo1 xl1 xc1)∧w'.cell? ⟨w.heap.size,5,none⟩=some (.int .i64 x.b.e)∧w'.cell? ⟨w.heap.size+1,0,none⟩=some (.bool y.a.g)∧w'.cell? ⟨w.heap.size+1,1,none⟩=some (.slice yo0 yl0 yc0)∧w'.cell? ⟨w.heap.size+1,2,none⟩=some (.int .i64 y.a.e)∧w'.cell? ⟨w.heap.size+1,3,none⟩=some (.bool y.b.g)∧w'.cell? ⟨w.heap.size+1,4,none⟩=some (.slice yo1 yl1 yc1)∧w'.cell? ⟨w.heap.size+1,5,none⟩=some (.int .i64 y.b.e)) (first | with_reducible exact⟨Xx.c0,Xx.c1,Xx.c2,Xx.c3,Xx.c4,Xx.c5,Xy.c0,Xy.c1,Xy.c2,Xy.c3,Xy.c4,Xy.c5⟩ | with_reducible exact⟨(Xx.alloc _).c0,(Xx.alloc _).c1,(Xx.alloc _).c2,(Xx.alloc _).c3,(Xx.alloc _).c4,(Xx.alloc _).c5,(Xy.alloc _).c0,(Xy.alloc _).c1,(Xy.alloc _).c2,(Xy.alloc _).c3,(Xy.alloc _).c4,(Xy.alloc _).c5⟩ | go_keep)
   (first
     | (go_at_call_of 120 (Value.agg #[.bool x.a.g,.slice xo0 xl0 xc0,.int .i64 x.a.e]);(with_reducible refine (prod_m xn0 yn1 sx0 sy1).mono ?_);rintro _ Wm1 ⟨⟨vm1,rfl,m1⟩,hb1⟩;obtain⟨m1o,m1l,m1c,rfl, -, -⟩:=m1.shape; replace Xx:=Xx.keep hb1;replace Xy:=Xy.keep hb1;replace R:=R.keep hb1;replace B:=B.keep hb1;replace xn0:=xn0.keep hb1;replace xn1:=xn1.keep hb1;replace yn0:=yn0.keep hb1;replace yn1:=yn1.keep hb1;replace HB:=later HB hb1;replace L:=L.keep hb1;replace H:=H.keep hb1;replace BL:=BL.keep hb1;replace BH:=BH.keep hb1;replace n2:=n2.keep hb1;clear hb1)
     | (go_at_call_of 120 (Value.agg #[.bool x.b.g,.slice xo1 xl1 xc1,.int .i64 x.b.e]);(with_reducible refine (prod_m xn1 yn0 sx1 sy0).mono ?_);rintro _ Wm2 ⟨⟨vm2,rfl,m2⟩,hb1⟩;obtain⟨m2o,m2l,m2c,rfl, -, -⟩:=m2.shape;replace m1:=m1.keep hb1;replace Xx:=Xx.keep hb1;replace Xy:=Xy.keep hb1;replace R:=R.keep hb1;replace B:=B.keep hb1;replace xn0:=xn0.keep hb1;replace xn1:=xn1.keep hb1;replace yn0:=yn0.keep hb1;replace yn1:=yn1.keep hb1;replace HB:=later HB hb1;replace L:=L.keep hb1;replace H:=H.keep hb1;replace BL:=BL.keep hb1;replace BH:=BH.keep hb1;replace n2:=n2.keep hb1;clear hb1)
     | (go_at_call_of 120 (Value.agg #[.bool x.b.g,.slice xo1 xl1 xc1,.int .i64 x.b.e]);(with_reducible refine (prod_m xn1 yn1 sx1 sy1).mono ?_);rintro _ Wm3 ⟨⟨vm3,rfl,m3⟩,hb1⟩;obtain⟨m3o,m3l,m3c,rfl, -, -⟩:=m3.shape;replace m1:=m1.keep hb1;replace m2:=m2.keep hb1;replace Xx:=Xx.keep hb1;replace Xy:=Xy.keep hb1;replace R:=R.keep hb1;replace B:=B.keep hb1;replace xn0:=xn0.keep hb1;replace xn1:=xn1.keep hb1;replace yn0:=yn0.keep hb1;replace yn1:=yn1.keep hb1;replace HB:=later HB hb1;replace L:=L.keep hb1;replace H:=H.keep hb1;replace BL:=BL.keep hb1;replace BH:=BH.keep hb1;replace n2:=n2.keep hb1;clear hb1))
 have hb1:Below Wm3.heap.size Wm3 (Wm3.alloc (.cells #[.bool (prodX x.a y.b).g,.slice m1o m1l m1c,.int .i64 (prodX x.a y.b).e,.bool (prodX x.b y.a).g,.slice m2o m2l m2c,.int .i64 (prodX x.b y.a).e,.bool (prodX x.b y.b).g,.slice m3o m3l m3c,.int .i64 (prodX x.b y.b).e] 29)):=by go_grown
 have hbs:bl+1<Wm3.heap.size:=H.2.2.2.2.2.2
 replace m1:=m1.keep hb1
 replace m2:=m2.keep hb1
 replace m3:=m3.keep hb1
 replace Xx:=Xx.keep hb1;replace Xy:=Xy.keep hb1;replace R:=R.keep hb1;replace B:=B.keep hb1;replace xn0:=xn0.keep hb1;replace xn1:=xn1.keep hb1;replace yn0:=yn0.keep hb1;replace yn1:=yn1.keep hb1;replace HB:=later HB hb1;replace L:=L.keep hb1;replace H:=H.keep hb1;replace BL:=BL.keep hb1;replace BH:=BH.keep hb1;replace n2:=n2.keep hb1
 have st:MSt w (Wm3.alloc (.cells #[.bool (prodX x.a y.b).g,.slice m1o m1l m1c,.int .i64 (prodX x.a y.b).e,.bool (prodX x.b y.a).g,.slice m2o m2l m2c,.int .i64 (prodX x.b y.a).e,.bool (prodX x.b y.b).g,.slice m3o m3l m3c,.int .i64 (prodX x.b y.b).e] 29)) (w.heap.size+1+1) bl Wm3.heap.size (mulP3 x y) (fun j=>if j=0 then (m1o,m1l,m1c) else if j=1 then (m2o,m2l,m2c) else (m3o,m3l,m3c)) p0 p0:=by
   refine⟨HB,⟨_,_,_,L,n2⟩,⟨_,_,_,H,n2⟩,BL,BH,B,R,fun j hj=>?_,by omega,hbl,hbs,by go_size⟩
   have hj3:j=0∨j=1∨j=2:=by omega
   rcases hj3 with rfl | rfl | rfl
   · exact⟨by show _=some (Value.bool (prodX x.a y.b).g);go_simp,by go_simp,by show _=some (Value.int .i64 (prodX x.a y.b).e);go_simp,m1⟩
   · exact⟨by show _=some (Value.bool (prodX x.b y.a).g);go_simp,by go_simp,by show _=some (Value.int .i64 (prodX x.b y.a).e);go_simp,m2⟩
   · exact⟨by show _=some (Value.bool (prodX x.b y.b).g);go_simp,by go_simp,by show _=some (Value.int .i64 (prodX x.b y.b).e);go_simp,m3⟩
 clear hb1 L H BL BH B R HB n2 m1 m2 m3 xn0 xn1 yn0 yn1 Xx Xy hbl hbs sx0 sx1 sy0 sy1
 generalize Wm3.alloc (.cells #[.bool (prodX x.a y.b).g,.slice m1o m1l m1c,.int .i64 (prodX x.a y.b).e,.bool (prodX x.b y.a).g,.slice m2o m2l m2c,.int .i64 (prodX x.b y.a).e,.bool (prodX x.b y.b).g,.slice m3o m3l m3c,.int .i64 (prodX x.b y.b).e] 29)=V5 at *
 generalize Wm3.heap.size=bs at *
 have SL':Hid (∀i,i≤3→Sm (loS (mulP3 x y) p0 i)):=by have q:=SL.out;rw [HP0.out] at q;exact q
 have SH':Hid (∀i,i≤3→Sm (hiS (mulP3 x y) p0 i)):=by have q:=SH.out;rw [HP0.out] at q;exact q
 clear SL SH
 have HM:Hid (mulX x y=pairX (loS (mulP3 x y) p0 3) (hiS (mulP3 x y) p0 3)):=by have q:mulX x y=pairX (loS (mulP3 x y) (prodX x.a y.a) 3) (hiS (mulP3 x y) (prodX x.a y.a) 3):=rfl;rw [HP0.out] at q;exact q
 clear HP0
 generalize mulP3 x y=P at *
 generalize (fun j=>if j=0 then (m1o,m1l,m1c) else if j=1 then (m2o,m2l,m2c) else (m3o,m3l,m3c))=pv at *
 go_wp2_with fail
 go_loopg [32] 3 (fun G s32 wx=>∃i:Nat,s32=.int .i64 (i:Int)∧i+G=3∧MSt w wx (w.heap.size+1+1) bl bs P pv (loS P p0 i) (hiS P p0 i))
 case atStart=>exact⟨0,rfl,by omega,st⟩
 case round =>
   clear st
   obtain⟨i,rfl,hik,st⟩:=hrel
   by_cases ci:i=3
   · subst ci
     obtain⟨la,lb,lc,hL,nL⟩:=st.L
     obtain⟨ha,hb,hc,hH,nH⟩:=st.H
     have sl:=SL'.out 3 (by omega)
     have sh:=SH'.out 3 (by omega)
     have R:=st.R
     have B:=st.B
     have HB:=st.hb
     have q1:=st.wr
     clear st SL' SH' SP
     generalize loS P p0 3=lo at *
     generalize hiS P p0 3=hi at *
     obtain⟨l0,l1,l2, -, -, -,ll⟩:=id hL
     obtain⟨h0,h1,h2, -, -, -,hl⟩:=id hH
     go_wp2_with (go_at_call 85;(with_reducible refine (pair_m nL nH sl sh).mono ?_);rintro _ Vc ⟨⟨vc,rfl,pc⟩,hb1⟩;obtain⟨po0,pl0,pc0,po1,pl1,pc1,rfl, -, -⟩:=pc.shape;replace R:=R.keep hb1;replace B:=B.keep hb1;replace HB:=later HB hb1;clear hb1;obtain⟨r0,r1,r2,r3,r4,r5,g0,g1,g2,g3,g4,g5,rl⟩:=id R)
     refine bodyPost_ret (v:=.agg #[.bool (pairX lo hi).a.g,.slice po0 pl0 pc0,.int .i64 (pairX lo hi).a.e,.bool (pairX lo hi).b.g,.slice po1 pl1 pc1,.int .i64 (pairX lo hi).b.e]) (by simp [results,Tryz.results78,go_sem, *]) rfl ⟨⟨_,rfl, ?_⟩, ?_⟩
     · rw [HM.out]
       repeat' (first | (with_reducible exact pc) | (with_reducible exact B) | (with_reducible refine PI.put ?_ ?_ _ _) | (with_reducible refine Boxed.set ?_ _ _ _))
     · repeat' (first | (with_reducible exact HB) | (with_reducible refine Below.setCell ?_ ?_ _) | go_size)
   · have hi3:i<3:=by omega
     obtain⟨c0,c1,c2,np⟩:=st.cs i hi3
     have sp:=SP.out i hi3
     have sl:=SL'.out i (by omega)
     have sh:=SH'.out i (by omega)
     have EL:Hid (loS P p0 (i+1)=if vz (P i)<vz (loS P p0 i) then P i else loS P p0 i):=rfl
     have EH:Hid (hiS P p0 (i+1)=if vz (hiS P p0 i)<vz (P i) then P i else hiS P p0 i):=rfl
     clear SP SL' SH' HM
     have hlt:(i:Int)<3:=by omega
     have hbl:=st.lt
     generalize loS P p0 i=lo at *
     generalize hiS P p0 i=hi at *
     generalize P i=p at *
     obtain⟨⟨po,pl,pc⟩,hpv⟩:∃q,pv i=q:=⟨_,rfl⟩
     rw [hpv] at c1 np
     clear hpv
     dsimp only at c1 np
     go_upto_region 6 with fail
     have Z:=has3_new wr (.bool p.g) (.slice po pl pc) (.int .i64 p.e) 29
     have hb1:Below wr.heap.size wr (wr.alloc (.cells #[.bool p.g,.slice po pl pc,.int .i64 p.e] 29)):=by go_grown
     replace st:=st.keep hb1
     replace np:=np.keep hb1
     clear c0 c1 c2 hb1
     generalize wr.alloc (.cells #[.bool p.g,.slice po pl pc,.int .i64 p.e] 29)=V6 at *
     generalize wr.heap.size=bz at *
     obtain⟨la,lb,lc,hL,nL⟩:=id st.L
     obtain⟨z0,z1,z2, -, -, -,zl⟩:=id Z
     obtain⟨l0,l1,l2, -, -, -,ll⟩:=id hL
     have oc:=order_m np nL sp sl
     have h1:(cmpZ (vz p) (vz lo)<0∧Hid (loS P p0 (i+1)=p))∨(0≤cmpZ (vz p) (vz lo)∧Hid (loS P p0 (i+1)=lo)):=by
       have q:=EL.out
       by_cases g:vz p<vz lo
       · rw [if_pos g] at q;exact Or.inl ⟨(cmpZ_lt _ _).2 g,q⟩
       · rw [if_neg g] at q;exact Or.inr ⟨(cmpZ_ge _ _).2 (by omega),q⟩
     have h2:(0<cmpZ (vz p) (vz hi)∧Hid (hiS P p0 (i+1)=p))∨(cmpZ (vz p) (vz hi)≤0∧Hid (hiS P p0 (i+1)=hi)):=by
       have q:=EH.out
       have q2:=cmpZ_le (vz p) (vz hi)
       by_cases g:vz hi<vz p
       · rw [if_pos g] at q;exact Or.inl ⟨by omega,q⟩
       · rw [if_neg g] at q;exact Or.inr ⟨by omega,q⟩
     generalize cmpZ (vz p) (vz lo)=k1 at *
     clear EL EH
     rcases h1 with ⟨hk,E1⟩ | ⟨hk,E1⟩
     · go_upto_region 7 with (go_at_call 39;(with_reducible refine oc.mono ?_);rintro _ V7 ⟨rfl,hb1⟩;replace st:=st.keep hb1;replace Z:=Z.keep hb1;replace np:=np.keep hb1;clear z0 z1 z2 zl l0 l1 l2 ll hL nL oc hb1;obtain⟨z0,z1,z2, -, -, -,zl⟩:=id Z)
       obtain⟨la,lb,lc,hL,nL⟩:=id st.L
       obtain⟨l0,l1,l2,f0,f1,f2,ll⟩:=id hL
       go_upto_region 8 with fail
       clear z0 z1 z2 zl l0 l1 l2 f0 f1 f2 ll hL nL
       have np2:=np.put3 st.BL (.bool p.g) (.slice po pl pc) (.int .i64 p.e)
       replace Z:=Z.far3 (c:=bl) (by have:=st.ls;omega) (.bool p.g) (.slice po pl pc) (.int .i64 p.e)
       replace st:=st.putL np
       replace np:=np2
       clear np2
       generalize (((V7.setCell ⟨bl,0,none⟩ (.bool p.g)).setCell ⟨bl,1,none⟩ (.slice po pl pc)).setCell ⟨bl,2,none⟩ (.int .i64 p.e))=V8 at *
       obtain⟨ha,hb,hc,hH,nH⟩:=id st.H
       have oc:=order_m np nH sp sh
       rcases h2 with ⟨hk2,E2⟩ | ⟨hk2,E2⟩
       · generalize cmpZ (vz p) (vz hi)=k2 at *
         obtain⟨z0,z1,z2, -, -, -,zl⟩:=id Z
         obtain⟨h0,h1,h2, -, -, -,hl⟩:=id hH
         go_upto_region 9 with (go_at_call 39;(with_reducible refine oc.mono ?_);rintro _ V9 ⟨rfl,hb1⟩;replace st:=st.keep hb1;replace Z:=Z.keep hb1;replace np:=np.keep hb1;clear z0 z1 z2 zl h0 h1 h2 hl hH nH oc hb1;obtain⟨z0,z1,z2, -, -, -,zl⟩:=id Z)
         obtain⟨ha,hb,hc,hH,nH⟩:=id st.H
         obtain⟨h0,h1,h2,f0,f1,f2,hl⟩:=id hH
         go_upto_region 10 with fail
         clear z0 z1 z2 zl h0 h1 h2 f0 f1 f2 hl hH nH
         have np2:=np.put3 st.BH (.bool p.g) (.slice po pl pc) (.int .i64 p.e)
         replace Z:=Z.far3 (c:=bl+1) (by have:=st.ls;omega) (.bool p.g) (.slice po pl pc) (.int .i64 p.e)
         replace st:=st.putH np
         replace np:=np2
         clear np2
         generalize (((V9.setCell ⟨bl+1,0,none⟩ (.bool p.g)).setCell ⟨bl+1,1,none⟩ (.slice po pl pc)).setCell ⟨bl+1,2,none⟩ (.int .i64 p.e))=Va at *
         go_wp2_with fail
         go_roundg (3-i-1)
         case measure=>omega
         case rel=>exact⟨i+1,by go_num,by omega,by rw [E1.out,E2.out];exact st⟩
       · generalize cmpZ (vz p) (vz hi)=k2 at *
         obtain⟨z0,z1,z2, -, -, -,zl⟩:=id Z
         obtain⟨h0,h1,h2, -, -, -,hl⟩:=id hH
         go_upto_region 10 with (go_at_call 39;(with_reducible refine oc.mono ?_);rintro _ V9 ⟨rfl,hb1⟩;replace st:=st.keep hb1;replace Z:=Z.keep hb1;replace np:=np.keep hb1;clear z0 z1 z2 zl h0 h1 h2 hl hH nH oc hb1)
         go_wp2_with fail
         go_roundg (3-i-1)
         case measure=>omega
         case rel=>exact⟨i+1,by go_num,by omega,by rw [E1.out,E2.out];exact st⟩
     · go_upto_region 8 with (go_at_call 39;(with_reducible refine oc.mono ?_);rintro _ V7 ⟨rfl,hb1⟩;replace st:=st.keep hb1;replace Z:=Z.keep hb1;replace np:=np.keep hb1;clear z0 z1 z2 zl l0 l1 l2 ll hL nL oc hb1)
       obtain⟨ha,hb,hc,hH,nH⟩:=id st.H
       have oc:=order_m np nH sp sh
       rcases h2 with ⟨hk2,E2⟩ | ⟨hk2,E2⟩
       · generalize cmpZ (vz p) (vz hi)=k2 at *
         obtain⟨z0,z1,z2, -, -, -,zl⟩:=id Z
         obtain⟨h0,h1,h2, -, -, -,hl⟩:=id hH
         go_upto_region 9 with (go_at_call 39;(with_reducible refine oc.mono ?_);rintro _ V9 ⟨rfl,hb1⟩;replace st:=st.keep hb1;replace Z:=Z.keep hb1;replace np:=np.keep hb1;clear z0 z1 z2 zl h0 h1 h2 hl hH nH oc hb1;obtain⟨z0,z1,z2, -, -, -,zl⟩:=id Z)
         obtain⟨ha,hb,hc,hH,nH⟩:=id st.H
         obtain⟨h0,h1,h2,f0,f1,f2,hl⟩:=id hH
         go_upto_region 10 with fail
         clear z0 z1 z2 zl h0 h1 h2 f0 f1 f2 hl hH nH
         have np2:=np.put3 st.BH (.bool p.g) (.slice po pl pc) (.int .i64 p.e)
         replace Z:=Z.far3 (c:=bl+1) (by have:=st.ls;omega) (.bool p.g) (.slice po pl pc) (.int .i64 p.e)
         replace st:=st.putH np
         replace np:=np2
         clear np2
         generalize (((V9.setCell ⟨bl+1,0,none⟩ (.bool p.g)).setCell ⟨bl+1,1,none⟩ (.slice po pl pc)).setCell ⟨bl+1,2,none⟩ (.int .i64 p.e))=Va at *
         go_wp2_with fail
         go_roundg (3-i-1)
         case measure=>omega
         case rel=>exact⟨i+1,by go_num,by omega,by rw [E1.out,E2.out];exact st⟩
       · generalize cmpZ (vz p) (vz hi)=k2 at *
         obtain⟨z0,z1,z2, -, -, -,zl⟩:=id Z
         obtain⟨h0,h1,h2, -, -, -,hl⟩:=id hH
         go_upto_region 10 with (go_at_call 39;(with_reducible refine oc.mono ?_);rintro _ V9 ⟨rfl,hb1⟩;replace st:=st.keep hb1;replace Z:=Z.keep hb1;replace np:=np.keep hb1;clear z0 z1 z2 zl h0 h1 h2 hl hH nH oc hb1)
         go_wp2_with fail
         go_roundg (3-i-1)
         case measure=>omega
         case rel=>exact⟨i+1,by go_num,by omega,by rw [E1.out,E2.out];exact st⟩
theorem bex6 {w:World} (b:Nat) (v0 v1 v2 v3 v4 v5:Value):Bex b w ((((((w.setCell ⟨b,0,none⟩ v0).setCell ⟨b,1,none⟩ v1).setCell ⟨b,2,none⟩ v2).setCell ⟨b,3,none⟩ v3).setCell ⟨b,4,none⟩ v4).setCell ⟨b,5,none⟩ v5):=(((((Bex.set ⟨Nat.le_refl _,fun _ _ _=>rfl⟩ 0 v0).set 1 v1).set 2 v2).set 3 v3).set 4 v4).set 5 v5
theorem Hs6.put6 {w:World} {b:Nat} {a0 a1 a2 a3 a4 a5:Value} (h:Hs6 w b a0 a1 a2 a3 a4 a5) (v0 v1 v2 v3 v4 v5:Value):Hs6 ((((((w.setCell ⟨b,0,none⟩ v0).setCell ⟨b,1,none⟩ v1).setCell ⟨b,2,none⟩ v2).setCell ⟨b,3,none⟩ v3).setCell ⟨b,4,none⟩ v4).setCell ⟨b,5,none⟩ v5) b v0 v1 v2 v3 v4 v5:=by
 obtain⟨c0,c1,c2,c3,c4,c5,f0,f1,f2,f3,f4,f5,l⟩:=h
 exact⟨by go_simp,by go_simp,by go_simp,by go_simp,by go_simp,by go_simp,by go_simp,by go_simp,by go_simp,by go_simp,by go_simp,by go_simp,by go_size⟩
theorem Hs6.other6 {w:World} {b c:Nat} {a0 a1 a2 a3 a4 a5:Value} (h:Hs6 w b a0 a1 a2 a3 a4 a5) (hne:b≠c) (v0 v1 v2 v3 v4 v5:Value):Hs6 ((((((w.setCell ⟨c,0,none⟩ v0).setCell ⟨c,1,none⟩ v1).setCell ⟨c,2,none⟩ v2).setCell ⟨c,3,none⟩ v3).setCell ⟨c,4,none⟩ v4).setCell ⟨c,5,none⟩ v5) b a0 a1 a2 a3 a4 a5:=by
 have k:=bex6 (w:=w) c v0 v1 v2 v3 v4 v5
 exact⟨k.cell h.c0 h.lt hne,k.cell h.c1 h.lt hne,k.cell h.c2 h.lt hne,k.cell h.c3 h.lt hne,k.cell h.c4 h.lt hne,k.cell h.c5 h.lt hne,k.frozen h.f0 h.lt hne,k.frozen h.f1 h.lt hne,k.frozen h.f2 h.lt hne,k.frozen h.f3 h.lt hne,k.frozen h.f4 h.lt hne,k.frozen h.f5 h.lt hne,Nat.lt_of_lt_of_le h.lt k.size⟩
theorem Boxed.put6 {w:World} {b:Nat} (h:Boxed w b) (c:Nat) (v0 v1 v2 v3 v4 v5:Value):Boxed ((((((w.setCell ⟨c,0,none⟩ v0).setCell ⟨c,1,none⟩ v1).setCell ⟨c,2,none⟩ v2).setCell ⟨c,3,none⟩ v3).setCell ⟨c,4,none⟩ v4).setCell ⟨c,5,none⟩ v5) b:=(((((h.set c 0 v0).set c 1 v1).set c 2 v2).set c 3 v3).set c 4 v4).set c 5 v5
theorem PI.put6 {w:World} {v:Value} {y:Pr} (h:PI w v y) {b:Nat} (hb:Boxed w b) (v0 v1 v2 v3 v4 v5:Value):PI ((((((w.setCell ⟨b,0,none⟩ v0).setCell ⟨b,1,none⟩ v1).setCell ⟨b,2,none⟩ v2).setCell ⟨b,3,none⟩ v3).setCell ⟨b,4,none⟩ v4).setCell ⟨b,5,none⟩ v5) v y :=
 (((((h.put hb 0 v0).put (hb.set b 0 v0) 1 v1).put ((hb.set b 0 v0).set b 1 v1) 2 v2).put (((hb.set b 0 v0).set b 1 v1).set b 2 v2) 3 v3).put ((((hb.set b 0 v0).set b 1 v1).set b 2 v2).set b 3 v3) 4 v4).put (((((hb.set b 0 v0).set b 1 v1).set b 2 v2).set b 3 v3).set b 4 v4) 5 v5
def HsP (w:World) (b:Nat) (x:Pr):Prop:=∃a l c d k e,Hs6 w b (.bool x.a.g) (.slice a l c) (.int .i64 x.a.e) (.bool x.b.g) (.slice d k e) (.int .i64 x.b.e)∧PI w (.agg #[.bool x.a.g,.slice a l c,.int .i64 x.a.e,.bool x.b.g,.slice d k e,.int .i64 x.b.e]) x
theorem HsP.keep {w W:World} {b:Nat} {x:Pr} (h:HsP w b x) (q:Below w.heap.size w W):HsP W b x:=by
 obtain⟨a,l,c,d,k,e,h1,h2⟩:=h
 exact⟨a,l,c,d,k,e,h1.keep q,h2.keep q⟩
theorem HsP.other {w:World} {b c:Nat} {x:Pr} (h:HsP w b x) (hne:b≠c) (hb:Boxed w c) (v0 v1 v2 v3 v4 v5:Value):HsP ((((((w.setCell ⟨c,0,none⟩ v0).setCell ⟨c,1,none⟩ v1).setCell ⟨c,2,none⟩ v2).setCell ⟨c,3,none⟩ v3).setCell ⟨c,4,none⟩ v4).setCell ⟨c,5,none⟩ v5) b x:=by
 obtain⟨a,l,f,d,k,e,h1,h2⟩:=h
 exact⟨a,l,f,d,k,e,h1.other6 hne v0 v1 v2 v3 v4 v5,h2.put6 hb v0 v1 v2 v3 v4 v5⟩
structure OSt (w wx:World) (qb rb sb pb:Nat) (q s p:Pr):Prop where
 hb:Below w.heap.size w wx
 Q:HsP wx qb q
 S:HsP wx sb s
 P:HsP wx pb p
 BS:Boxed wx sb
 BP:Boxed wx pb
 B:Boxed wx rb
 R:Hs6 wx rb (.bool false) (.slice none 0 0) (.int .i64 0) (.bool false) (.slice none 0 0) (.int .i64 0)
 wq:w.heap.size≤qb
 qr:qb<rb
 rs:rb<sb
 sp:sb<pb
theorem OSt.keep {w wx W:World} {qb rb sb pb:Nat} {q s p:Pr} (h:OSt w wx qb rb sb pb q s p) (k:Below wx.heap.size wx W):OSt w W qb rb sb pb q s p :=
 ⟨later h.hb k,h.Q.keep k,h.S.keep k,h.P.keep k,h.BS.keep k,h.BP.keep k,h.B.keep k,h.R.keep k,h.wq,h.qr,h.rs,h.sp⟩
theorem OSt.putS {w wx:World} {qb rb sb pb:Nat} {q s p n:Pr} {a d:Option Addr} {l c k e:Nat} (h:OSt w wx qb rb sb pb q s p) (hn:PI wx (.agg #[.bool n.a.g,.slice a l c,.int .i64 n.a.e,.bool n.b.g,.slice d k e,.int .i64 n.b.e]) n):OSt w ((((((wx.setCell ⟨sb,0,none⟩ (.bool n.a.g)).setCell ⟨sb,1,none⟩ (.slice a l c)).setCell ⟨sb,2,none⟩ (.int .i64 n.a.e)).setCell ⟨sb,3,none⟩ (.bool n.b.g)).setCell ⟨sb,4,none⟩ (.slice d k e)).setCell ⟨sb,5,none⟩ (.int .i64 n.b.e)) qb rb sb pb q n p:=by
 obtain⟨_,_,_,_,_,_,h1, -⟩:=h.S
 have q0:=h.wq
 have q1:=h.qr
 have q2:=h.rs
 have q3:=h.sp
 have hl:w.heap.size≤sb:=by omega
 exact⟨(((((h.hb.setCell (p:=⟨sb,0,none⟩) hl _).setCell (p:=⟨sb,1,none⟩) hl _).setCell (p:=⟨sb,2,none⟩) hl _).setCell (p:=⟨sb,3,none⟩) hl _).setCell (p:=⟨sb,4,none⟩) hl _).setCell (p:=⟨sb,5,none⟩) hl _,h.Q.other (by omega) h.BS (.bool n.a.g) (.slice a l c) (.int .i64 n.a.e) (.bool n.b.g) (.slice d k e) (.int .i64 n.b.e),⟨_,_,_,_,_,_,h1.put6 (.bool n.a.g) (.slice a l c) (.int .i64 n.a.e) (.bool n.b.g) (.slice d k e) (.int .i64 n.b.e),hn.put6 h.BS (.bool n.a.g) (.slice a l c) (.int .i64 n.a.e) (.bool n.b.g) (.slice d k e) (.int .i64 n.b.e)⟩,h.P.other (by omega) h.BS (.bool n.a.g) (.slice a l c) (.int .i64 n.a.e) (.bool n.b.g) (.slice d k e) (.int .i64 n.b.e),h.BS.put6 _ (.bool n.a.g) (.slice a l c) (.int .i64 n.a.e) (.bool n.b.g) (.slice d k e) (.int .i64 n.b.e),h.BP.put6 _ (.bool n.a.g) (.slice a l c) (.int .i64 n.a.e) (.bool n.b.g) (.slice d k e) (.int .i64 n.b.e),h.B.put6 _ (.bool n.a.g) (.slice a l c) (.int .i64 n.a.e) (.bool n.b.g) (.slice d k e) (.int .i64 n.b.e),h.R.other6 (by omega) (.bool n.a.g) (.slice a l c) (.int .i64 n.a.e) (.bool n.b.g) (.slice d k e) (.int .i64 n.b.e),h.wq,h.qr,h.rs,h.sp⟩
theorem OSt.putP {w wx:World} {qb rb sb pb:Nat} {q s p n:Pr} {a d:Option Addr} {l c k e:Nat} (h:OSt w wx qb rb sb pb q s p) (hn:PI wx (.agg #[.bool n.a.g,.slice a l c,.int .i64 n.a.e,.bool n.b.g,.slice d k e,.int .i64 n.b.e]) n):OSt w ((((((wx.setCell ⟨pb,0,none⟩ (.bool n.a.g)).setCell ⟨pb,1,none⟩ (.slice a l c)).setCell ⟨pb,2,none⟩ (.int .i64 n.a.e)).setCell ⟨pb,3,none⟩ (.bool n.b.g)).setCell ⟨pb,4,none⟩ (.slice d k e)).setCell ⟨pb,5,none⟩ (.int .i64 n.b.e)) qb rb sb pb q s n:=by
 obtain⟨_,_,_,_,_,_,h1, -⟩:=h.P
 have q0:=h.wq
 have q1:=h.qr
 have q2:=h.rs
 have q3:=h.sp
 have hl:w.heap.size≤pb:=by omega
 exact⟨(((((h.hb.setCell (p:=⟨pb,0,none⟩) hl _).setCell (p:=⟨pb,1,none⟩) hl _).setCell (p:=⟨pb,2,none⟩) hl _).setCell (p:=⟨pb,3,none⟩) hl _).setCell (p:=⟨pb,4,none⟩) hl _).setCell (p:=⟨pb,5,none⟩) hl _,h.Q.other (by omega) h.BP (.bool n.a.g) (.slice a l c) (.int .i64 n.a.e) (.bool n.b.g) (.slice d k e) (.int .i64 n.b.e),h.S.other (by omega) h.BP (.bool n.a.g) (.slice a l c) (.int .i64 n.a.e) (.bool n.b.g) (.slice d k e) (.int .i64 n.b.e),⟨_,_,_,_,_,_,h1.put6 (.bool n.a.g) (.slice a l c) (.int .i64 n.a.e) (.bool n.b.g) (.slice d k e) (.int .i64 n.b.e),hn.put6 h.BP (.bool n.a.g) (.slice a l c) (.int .i64 n.a.e) (.bool n.b.g) (.slice d k e) (.int .i64 n.b.e)⟩,h.BS.put6 _ (.bool n.a.g) (.slice a l c) (.int .i64 n.a.e) (.bool n.b.g) (.slice d k e) (.int .i64 n.b.e),h.BP.put6 _ (.bool n.a.g) (.slice a l c) (.int .i64 n.a.e) (.bool n.b.g) (.slice d k e) (.int .i64 n.b.e),h.B.put6 _ (.bool n.a.g) (.slice a l c) (.int .i64 n.a.e) (.bool n.b.g) (.slice d k e) (.int .i64 n.b.e),h.R.other6 (by omega) (.bool n.a.g) (.slice a l c) (.int .i64 n.a.e) (.bool n.b.g) (.slice d k e) (.int .i64 n.b.e),h.wq,h.qr,h.rs,h.sp⟩
end Go.Proofs.YtopfabemfbdccaaGreat
