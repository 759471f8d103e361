/- The reference's numbers between two: Div of what is above nought. The reference's numbers between two: Mul. -/
import Derived.Test.YtopfabemfbdccaaGreatZe18
import Derived.Test.YtopfabemfbdccaaGreatZe39
namespace Go.Proofs.YtopfabemfbdccaaGreat
open Go.ChangeShapes Go.WideShapes Go.ChangeAt Go.RowKit
theorem Has3.put3 {w:World} {b:Nat} {x y z:Value} (h:Has3 w b x y z) (x' y' z':Value):Has3 (((w.setCell ⟨b,0,none⟩ x').setCell ⟨b,1,none⟩ y').setCell ⟨b,2,none⟩ z') b x' y' z':=by
 obtain⟨a0,a1,a2,f0,f1,f2,l⟩:=h
 exact⟨by go_simp,by go_simp,by go_simp,by go_simp,by go_simp,by go_simp,by go_size⟩
theorem Hs6.far3 {w:World} {b c:Nat} {a0 a1 a2 a3 a4 a5:Value} (h:Hs6 w b a0 a1 a2 a3 a4 a5) (hne:b≠c) (x y z:Value):Hs6 (((w.setCell ⟨c,0,none⟩ x).setCell ⟨c,1,none⟩ y).setCell ⟨c,2,none⟩ z) b a0 a1 a2 a3 a4 a5:=by
 have k:Bex c w (((w.setCell ⟨c,0,none⟩ x).setCell ⟨c,1,none⟩ y).setCell ⟨c,2,none⟩ z):=((Bex.set ⟨Nat.le_refl _,fun _ _ _=>rfl⟩ 0 x).set 1 y).set 2 z
 exact⟨k.cell h.c0 h.lt hne,k.cell h.c1 h.lt hne,k.cell h.c2 h.lt hne,k.cell h.c3 h.lt hne,k.cell h.c4 h.lt hne,k.cell h.c5 h.lt hne,k.frozen h.f0 h.lt hne,k.frozen h.f1 h.lt hne,k.frozen h.f2 h.lt hne,k.frozen h.f3 h.lt hne,k.frozen h.f4 h.lt hne,k.frozen h.f5 h.lt hne,Nat.lt_of_lt_of_le h.lt k.size⟩
theorem NI.put3 {w:World} {v:Value} {a:Nm} (h:NI w v a) {b:Nat} (hb:Boxed w b) (x y z:Value):NI (((w.setCell ⟨b,0,none⟩ x).setCell ⟨b,1,none⟩ y).setCell ⟨b,2,none⟩ z) v a:=((h.put hb 0 x).put (hb.set _ _ _) 1 y).put ((hb.set _ _ _).set _ _ _) 2 z
theorem Boxed.put3 {w:World} {b:Nat} (h:Boxed w b) (c:Nat) (x y z:Value):Boxed (((w.setCell ⟨c,0,none⟩ x).setCell ⟨c,1,none⟩ y).setCell ⟨c,2,none⟩ z) b:=((h.set c 0 x).set c 1 y).set c 2 z
theorem quot_lo {w:World} {x y:Value} {a b:Nm} (ha:NI w x a) (hb:NI w y b) (sa:Sm a) (sb:Sm b) (nz:a.m≠0) (nb:b.m≠0) (hab:bitsN a.m≤200+bitsN b.m) :
   Calls Tryz.prog 83 #[x,y,.int .i64 (-1)] w fun r w'=>(∃v,r=.returned v∧NI w' v (quotX a b true))∧Below w.heap.size w w':=quot_m ha hb sa sb nz nb hab true
theorem quot_hi {w:World} {x y:Value} {a b:Nm} (ha:NI w x a) (hb:NI w y b) (sa:Sm a) (sb:Sm b) (nz:a.m≠0) (nb:b.m≠0) (hab:bitsN a.m≤200+bitsN b.m) :
   Calls Tryz.prog 83 #[x,y,.int .i64 1] w fun r w'=>(∃v,r=.returned v∧NI w' v (quotX a b false))∧Below w.heap.size w w':=quot_m ha hb sa sb nz nb hab false
theorem sign_m {w:World} {x:Value} {a:Nm} (ha:NI w x a) (hg:a.g=false) (nz:a.m≠0) :
   Calls Tryz.prog 84 #[x] w fun r w'=>r=.returned (.int .i64 1)∧Below w.heap.size w w':=by
 obtain⟨s,rfl,h⟩:=ha
 have:=sign_w a.g s a.m a.e w h
 unfold signZ at this
 rw [if_neg nz,hg,if_neg (by simp)] at this
 rw [hg]
 exact this
def divX (x y:Pr):Pr:=pairX (quotX x.a y.b true) (quotX x.b y.a false)
set_option maxRecDepth 4000 in
set_option maxHeartbeats 4000000 in
theorem div_m {w:World} {vx vy:Value} {x y:Pr} (hx:PI w vx x) (hy:PI w vy y) (sx:SmP x) (sy:SmP y) (g0:x.a.g=false) (g1:x.b.g=false) (z0:x.a.m≠0) (z1:x.b.m≠0) (z2:y.a.m≠0) (z3:y.b.m≠0) (b0:bitsN x.a.m≤200+bitsN y.a.m) (b1:bitsN x.a.m≤200+bitsN y.b.m) (b2:bitsN x.b.m≤200+bitsN y.a.m) (b3:bitsN x.b.m≤200+bitsN y.b.m) (s1:Sm (quotX x.a y.b true)) (s2:Sm (quotX x.b y.a false)) :
   Calls Tryz.prog 36 #[vx,vy] w fun r w'=>(∃v,r=.returned v∧PI w' v (divX x y))∧Below w.heap.size w w':=by
 obtain⟨xo0,xl0,xc0,xo1,xl1,xc1,rfl,xn0,xn1⟩:=hx.shape
 obtain⟨yo0,yl0,yc0,yo1,yl1,yc1,rfl,yn0,yn1⟩:=hy.shape
 obtain⟨sx0,sx1⟩:=sx
 obtain⟨sy0,sy1⟩:=sy
 unfold divX
 have G0:Hid (x.a.g=false):=g0
 have G1:Hid (x.b.g=false):=g1
 clear g0 g1
 have Xx:=((hs6_new w (.bool x.a.g) (.slice xo0 xl0 xc0) (.int .i64 x.a.e) (.bool x.b.g) (.slice xo1 xl1 xc1) (.int .i64 x.b.e) 31).alloc (.cells #[.bool y.a.g,.slice yo0 yl0 yc0,.int .i64 y.a.e,.bool y.b.g,.slice yo1 yl1 yc1,.int .i64 y.b.e] 31)).alloc (.cells #[.bool false,.slice none 0 0,.int .i64 0,.bool false,.slice none 0 0,.int .i64 0] 31)
 have Xy:=(hs6_new (w.alloc (.cells #[.bool x.a.g,.slice xo0 xl0 xc0,.int .i64 x.a.e,.bool x.b.g,.slice xo1 xl1 xc1,.int .i64 x.b.e] 31)) (.bool y.a.g) (.slice yo0 yl0 yc0) (.int .i64 y.a.e) (.bool y.b.g) (.slice yo1 yl1 yc1) (.int .i64 y.b.e) 31).alloc (.cells #[.bool false,.slice none 0 0,.int .i64 0,.bool false,.slice none 0 0,.int .i64 0] 31)
 have R:=hs6_new ((w.alloc (.cells #[.bool x.a.g,.slice xo0 xl0 xc0,.int .i64 x.a.e,.bool x.b.g,.slice xo1 xl1 xc1,.int .i64 x.b.e] 31)).alloc (.cells #[.bool y.a.g,.slice yo0 yl0 yc0,.int .i64 y.a.e,.bool y.b.g,.slice yo1 yl1 yc1,.int .i64 y.b.e] 31)) (.bool false) (.slice none 0 0) (.int .i64 0) (.bool false) (.slice none 0 0) (.int .i64 0) 31
 have B:=Boxed.newP ((w.alloc (.cells #[.bool x.a.g,.slice xo0 xl0 xc0,.int .i64 x.a.e,.bool x.b.g,.slice xo1 xl1 xc1,.int .i64 x.b.e] 31)).alloc (.cells #[.bool y.a.g,.slice yo0 yl0 yc0,.int .i64 y.a.e,.bool y.b.g,.slice yo1 yl1 yc1,.int .i64 y.b.e] 31)) #[.bool false,.slice none 0 0,.int .i64 0,.bool false,.slice none 0 0,.int .i64 0]
 have HB:Below w.heap.size w (((w.alloc (.cells #[.bool x.a.g,.slice xo0 xl0 xc0,.int .i64 x.a.e,.bool x.b.g,.slice xo1 xl1 xc1,.int .i64 x.b.e] 31)).alloc (.cells #[.bool y.a.g,.slice yo0 yl0 yc0,.int .i64 y.a.e,.bool y.b.g,.slice yo1 yl1 yc1,.int .i64 y.b.e] 31)).alloc (.cells #[.bool false,.slice none 0 0,.int .i64 0,.bool false,.slice none 0 0,.int .i64 0] 31)):=by go_grown
 replace xn0:=xn0.keep HB
 replace xn1:=xn1.keep HB
 replace yn0:=yn0.keep HB
 replace yn1:=yn1.keep HB
 simp only [World.size_alloc] at Xy R B
 go_enter Tryz.func36,Tryz.ntmps36
 go_upto_region 1 with fail
 generalize (((w.alloc (.cells #[.bool x.a.g,.slice xo0 xl0 xc0,.int .i64 x.a.e,.bool x.b.g,.slice xo1 xl1 xc1,.int .i64 x.b.e] 31)).alloc (.cells #[.bool y.a.g,.slice yo0 yl0 yc0,.int .i64 y.a.e,.bool y.b.g,.slice yo1 yl1 yc1,.int .i64 y.b.e] 31)).alloc (.cells #[.bool false,.slice none 0 0,.int .i64 0,.bool false,.slice none 0 0,.int .i64 0] 31))=V1 at *
 obtain⟨x0,x1,x2,x3,x4,x5, -, -, -, -, -, -,xl⟩:=id Xx;obtain⟨y0,y1,y2,y3,y4,y5, -, -, -, -, -, -,yl⟩:=id Xy
 go_upto_region 2 with (go_at_call 83;(with_reducible refine (quot_lo xn0 yn0 sx0 sy0 z0 z2 b0).mono ?_);rintro _ V2 ⟨⟨v2,rfl,n2⟩,hb1⟩;obtain⟨o2,l2,c2,rfl, -, -⟩:=n2.shape;replace Xx:=Xx.keep hb1;replace Xy:=Xy.keep hb1;replace R:=R.keep hb1;replace B:=B.keep hb1;replace xn0:=xn0.keep hb1;replace xn1:=xn1.keep hb1;replace yn0:=yn0.keep hb1;replace yn1:=yn1.keep hb1;replace HB:=later HB hb1;clear x0 x1 x2 x3 x4 x5 xl y0 y1 y2 y3 y4 y5 yl hb1)
 have L:=has3_new V2 (.bool (quotX x.a y.a true).g) (.slice o2 l2 c2) (.int .i64 (quotX x.a y.a true).e) 29
 have BL:=Boxed.new V2 #[.bool (quotX x.a y.a true).g,.slice o2 l2 c2,.int .i64 (quotX x.a y.a true).e]
 have hb1:Below V2.heap.size V2 (V2.alloc (.cells #[.bool (quotX x.a y.a true).g,.slice o2 l2 c2,.int .i64 (quotX x.a y.a true).e] 29)):=by go_grown
 have hbl:w.heap.size+1+1<V2.heap.size:=R.lt
 replace Xx:=Xx.keep hb1;replace Xy:=Xy.keep hb1;replace R:=R.keep hb1;replace B:=B.keep hb1;replace xn0:=xn0.keep hb1;replace xn1:=xn1.keep hb1;replace yn0:=yn0.keep hb1;replace yn1:=yn1.keep hb1;replace HB:=later HB hb1
 clear hb1 n2
 generalize V2.alloc (.cells #[.bool (quotX x.a y.a true).g,.slice o2 l2 c2,.int .i64 (quotX x.a y.a true).e] 29)=V3 at *
 generalize V2.heap.size=bl at *
 generalize quotX x.a y.a true=q0 at *
 obtain⟨x0,x1,x2,x3,x4,x5, -, -, -, -, -, -,xl⟩:=id Xx;obtain⟨y0,y1,y2,y3,y4,y5, -, -, -, -, -, -,yl⟩:=id Xy
 go_upto_region 3 with (go_at_call 84;(with_reducible refine (sign_m xn0 G0.out z0).mono ?_);rintro _ V4 ⟨rfl,hb1⟩;replace L:=L.keep hb1;replace BL:=BL.keep hb1;replace Xx:=Xx.keep hb1;replace Xy:=Xy.keep hb1;replace R:=R.keep hb1;replace B:=B.keep hb1;replace xn0:=xn0.keep hb1;replace xn1:=xn1.keep hb1;replace yn0:=yn0.keep hb1;replace yn1:=yn1.keep hb1;replace HB:=later HB hb1;clear x0 x1 x2 x3 x4 x5 xl y0 y1 y2 y3 y4 y5 yl hb1;obtain⟨x0,x1,x2,x3,x4,x5, -, -, -, -, -, -,xl⟩:=id Xx;obtain⟨y0,y1,y2,y3,y4,y5, -, -, -, -, -, -,yl⟩:=id Xy)
 go_upto_region 4 with (go_at_call 83;(with_reducible refine (quot_lo xn0 yn1 sx0 sy1 z0 z3 b1).mono ?_);rintro _ V5 ⟨⟨v5,rfl,n5⟩,hb1⟩;obtain⟨o5,l5,c5,rfl, -, -⟩:=n5.shape;replace L:=L.keep hb1;replace BL:=BL.keep hb1;replace Xx:=Xx.keep hb1;replace Xy:=Xy.keep hb1;replace R:=R.keep hb1;replace B:=B.keep hb1;replace xn0:=xn0.keep hb1;replace xn1:=xn1.keep hb1;replace yn0:=yn0.keep hb1;replace yn1:=yn1.keep hb1;replace HB:=later HB hb1;clear x0 x1 x2 x3 x4 x5 xl y0 y1 y2 y3 y4 y5 yl hb1;obtain⟨e0,e1,e2,e3,e4,e5,el⟩:=id L)
 generalize hq1:quotX x.a y.b true=q1 at *
 have HQ1:Hid (quotX x.a y.b true=q1):=hq1
 clear hq1
 have hW:Below w.heap.size w (((V5.setCell ⟨bl,0,none⟩ (.bool q1.g)).setCell ⟨bl,1,none⟩ (.slice o5 l5 c5)).setCell ⟨bl,2,none⟩ (.int .i64 q1.e)):=((HB.setCell (by show w.heap.size≤bl;omega) _).setCell (by show w.heap.size≤bl;omega) _).setCell (by show w.heap.size≤bl;omega) _
 clear e0 e1 e2 e3 e4 e5 el
 replace L:=L.put3 (.bool q1.g) (.slice o5 l5 c5) (.int .i64 q1.e)
 replace Xx:=Xx.far3 (c:=bl) (by omega) (.bool q1.g) (.slice o5 l5 c5) (.int .i64 q1.e)
 replace Xy:=Xy.far3 (c:=bl) (by omega) (.bool q1.g) (.slice o5 l5 c5) (.int .i64 q1.e)
 replace R:=R.far3 (c:=bl) (by omega) (.bool q1.g) (.slice o5 l5 c5) (.int .i64 q1.e)
 replace B:=B.put3 bl (.bool q1.g) (.slice o5 l5 c5) (.int .i64 q1.e)
 replace xn0:=xn0.put3 BL (.bool q1.g) (.slice o5 l5 c5) (.int .i64 q1.e)
 replace xn1:=xn1.put3 BL (.bool q1.g) (.slice o5 l5 c5) (.int .i64 q1.e)
 replace yn0:=yn0.put3 BL (.bool q1.g) (.slice o5 l5 c5) (.int .i64 q1.e)
 replace yn1:=yn1.put3 BL (.bool q1.g) (.slice o5 l5 c5) (.int .i64 q1.e)
 replace n5:=n5.put3 BL (.bool q1.g) (.slice o5 l5 c5) (.int .i64 q1.e)
 replace HB:=hW
 clear hW BL
 generalize ((V5.setCell ⟨bl,0,none⟩ (.bool q1.g)).setCell ⟨bl,1,none⟩ (.slice o5 l5 c5)).setCell ⟨bl,2,none⟩ (.int .i64 q1.e)=V6 at *
 obtain⟨x0,x1,x2,x3,x4,x5, -, -, -, -, -, -,xl⟩:=id Xx;obtain⟨y0,y1,y2,y3,y4,y5, -, -, -, -, -, -,yl⟩:=id Xy
 go_upto_region 5 with (go_at_call 83;(with_reducible refine (quot_hi xn1 yn1 sx1 sy1 z1 z3 b3).mono ?_);rintro _ V7 ⟨⟨v7,rfl,n7⟩,hb1⟩;obtain⟨o7,l7,c7,rfl, -, -⟩:=n7.shape;replace L:=L.keep hb1;replace n5:=n5.keep hb1;replace Xx:=Xx.keep hb1;replace Xy:=Xy.keep hb1;replace R:=R.keep hb1;replace B:=B.keep hb1;replace xn0:=xn0.keep hb1;replace xn1:=xn1.keep hb1;replace yn0:=yn0.keep hb1;replace yn1:=yn1.keep hb1;replace HB:=later HB hb1;clear x0 x1 x2 x3 x4 x5 xl y0 y1 y2 y3 y4 y5 yl hb1)
 have M:=has3_new V7 (.bool (quotX x.b y.b false).g) (.slice o7 l7 c7) (.int .i64 (quotX x.b y.b false).e) 29
 have BL:=Boxed.new V7 #[.bool (quotX x.b y.b false).g,.slice o7 l7 c7,.int .i64 (quotX x.b y.b false).e]
 have hb1:Below V7.heap.size V7 (V7.alloc (.cells #[.bool (quotX x.b y.b false).g,.slice o7 l7 c7,.int .i64 (quotX x.b y.b false).e] 29)):=by go_grown
 have hbm:bl<V7.heap.size:=L.2.2.2.2.2.2
 replace L:=L.keep hb1
 replace n5:=n5.keep hb1
 replace Xx:=Xx.keep hb1;replace Xy:=Xy.keep hb1;replace R:=R.keep hb1;replace B:=B.keep hb1;replace xn0:=xn0.keep hb1;replace xn1:=xn1.keep hb1;replace yn0:=yn0.keep hb1;replace yn1:=yn1.keep hb1;replace HB:=later HB hb1
 clear hb1 n7
 generalize V7.alloc (.cells #[.bool (quotX x.b y.b false).g,.slice o7 l7 c7,.int .i64 (quotX x.b y.b false).e] 29)=V8 at *
 generalize V7.heap.size=bm at *
 generalize quotX x.b y.b false=q2 at *
 obtain⟨x0,x1,x2,x3,x4,x5, -, -, -, -, -, -,xl⟩:=id Xx;obtain⟨y0,y1,y2,y3,y4,y5, -, -, -, -, -, -,yl⟩:=id Xy
 go_upto_region 6 with (go_at_call 84;(with_reducible refine (sign_m xn1 G1.out z1).mono ?_);rintro _ V9 ⟨rfl,hb1⟩;replace L:=L.keep hb1;replace M:=M.keep hb1;replace BL:=BL.keep hb1;replace n5:=n5.keep hb1;replace Xx:=Xx.keep hb1;replace Xy:=Xy.keep hb1;replace R:=R.keep hb1;replace B:=B.keep hb1;replace xn0:=xn0.keep hb1;replace xn1:=xn1.keep hb1;replace yn0:=yn0.keep hb1;replace yn1:=yn1.keep hb1;replace HB:=later HB hb1;clear x0 x1 x2 x3 x4 x5 xl y0 y1 y2 y3 y4 y5 yl hb1;obtain⟨x0,x1,x2,x3,x4,x5, -, -, -, -, -, -,xl⟩:=id Xx;obtain⟨y0,y1,y2,y3,y4,y5, -, -, -, -, -, -,yl⟩:=id Xy)
 go_upto_region 7 with (go_at_call 83;(with_reducible refine (quot_hi xn1 yn0 sx1 sy0 z1 z2 b2).mono ?_);rintro _ Va ⟨⟨va,rfl,na⟩,hb1⟩;obtain⟨oa,la,ca,rfl, -, -⟩:=na.shape;replace L:=L.keep hb1;replace M:=M.keep hb1;replace BL:=BL.keep hb1;replace n5:=n5.keep hb1;replace Xx:=Xx.keep hb1;replace Xy:=Xy.keep hb1;replace R:=R.keep hb1;replace B:=B.keep hb1;replace xn0:=xn0.keep hb1;replace xn1:=xn1.keep hb1;replace yn0:=yn0.keep hb1;replace yn1:=yn1.keep hb1;replace HB:=later HB hb1;clear x0 x1 x2 x3 x4 x5 xl y0 y1 y2 y3 y4 y5 yl hb1;obtain⟨m0,m1,m2,m3,m4,m5,ml⟩:=id M)
 generalize hq3:quotX x.b y.a false=q3 at *
 have HQ3:Hid (quotX x.b y.a false=q3):=hq3
 clear hq3
 have hW:Below w.heap.size w (((Va.setCell ⟨bm,0,none⟩ (.bool q3.g)).setCell ⟨bm,1,none⟩ (.slice oa la ca)).setCell ⟨bm,2,none⟩ (.int .i64 q3.e)):=((HB.setCell (by show w.heap.size≤bm;omega) _).setCell (by show w.heap.size≤bm;omega) _).setCell (by show w.heap.size≤bm;omega) _
 clear m0 m1 m2 m3 m4 m5 ml
 replace M:=M.put3 (.bool q3.g) (.slice oa la ca) (.int .i64 q3.e)
 have hne:bl≠bm:=by omega
 have kM:Bex bm Va (((Va.setCell ⟨bm,0,none⟩ (.bool q3.g)).setCell ⟨bm,1,none⟩ (.slice oa la ca)).setCell ⟨bm,2,none⟩ (.int .i64 q3.e)):=((Bex.set ⟨Nat.le_refl _,fun _ _ _=>rfl⟩ 0 _).set 1 _).set 2 _
 have l0:=kM.cell L.c0 L.2.2.2.2.2.2 hne
 have l1:=kM.cell L.c1 L.2.2.2.2.2.2 hne
 have l2:=kM.cell L.c2 L.2.2.2.2.2.2 hne
 replace R:=R.far3 (c:=bm) (by omega) (.bool q3.g) (.slice oa la ca) (.int .i64 q3.e)
 replace B:=B.put3 bm (.bool q3.g) (.slice oa la ca) (.int .i64 q3.e)
 replace n5:=n5.put3 BL (.bool q3.g) (.slice oa la ca) (.int .i64 q3.e)
 replace na:=na.put3 BL (.bool q3.g) (.slice oa la ca) (.int .i64 q3.e)
 replace HB:=hW
 clear hW BL kM L Xx Xy xn0 xn1 yn0 yn1
 generalize ((Va.setCell ⟨bm,0,none⟩ (.bool q3.g)).setCell ⟨bm,1,none⟩ (.slice oa la ca)).setCell ⟨bm,2,none⟩ (.int .i64 q3.e)=Vb at *
 obtain⟨m0,m1,m2,m3,m4,m5,ml⟩:=id M
 go_wp2_with (go_at_call 85;(with_reducible refine (pair_m n5 na s1 s2).mono ?_);rintro _ Vc ⟨⟨vc,rfl,pc⟩,hb1⟩;obtain⟨po0,pl0,pc0,po1,pl1,pc1,rfl, -, -⟩:=pc.shape;replace R:=R.keep hb1;replace B:=B.keep hb1;replace HB:=later HB hb1;clear hb1;obtain⟨r0,r1,r2,r3,r4,r5,g0,g1,g2,g3,g4,g5,rl⟩:=id R)
 refine bodyPost_ret (v:=.agg #[.bool (pairX q1 q3).a.g,.slice po0 pl0 pc0,.int .i64 (pairX q1 q3).a.e,.bool (pairX q1 q3).b.g,.slice po1 pl1 pc1,.int .i64 (pairX q1 q3).b.e]) (by simp [results,Tryz.results36,go_sem, *]) rfl ⟨⟨_,rfl, ?_⟩, ?_⟩
 · rw [HQ1.out,HQ3.out]
   repeat' (first | (with_reducible exact pc) | (with_reducible exact B) | (with_reducible refine PI.put ?_ ?_ _ _) | (with_reducible refine Boxed.set ?_ _ _ _))
 · repeat' (first | (with_reducible exact HB) | (with_reducible refine Below.setCell ?_ ?_ _) | go_size)
def loS (P:Nat→Nm) (l:Nm):Nat→Nm
 | 0=>l
 | i+1=>if vz (P i)<vz (loS P l i) then P i else loS P l i
def hiS (P:Nat→Nm) (l:Nm):Nat→Nm
 | 0=>l
 | i+1=>if vz (hiS P l i)<vz (P i) then P i else hiS P l i
def mulP3 (x y:Pr) (j:Nat):Nm:=if j=0 then prodX x.a y.b else if j=1 then prodX x.b y.a else prodX x.b y.b
def mulX (x y:Pr):Pr:=pairX (loS (mulP3 x y) (prodX x.a y.a) 3) (hiS (mulP3 x y) (prodX x.a y.a) 3)
structure MSt (w wx:World) (rb bl bs:Nat) (P:Nat→Nm) (pv:Nat→Option Addr×Nat×Nat) (lo hi:Nm):Prop where
 hb:Below w.heap.size w wx
 L:∃a b c,Has3 wx bl (.bool lo.g) (.slice a b c) (.int .i64 lo.e)∧NI wx (.agg #[.bool lo.g,.slice a b c,.int .i64 lo.e]) lo
 H:∃a b c,Has3 wx (bl+1) (.bool hi.g) (.slice a b c) (.int .i64 hi.e)∧NI wx (.agg #[.bool hi.g,.slice a b c,.int .i64 hi.e]) hi
 BL:Boxed wx bl
 BH:Boxed wx (bl+1)
 B:Boxed wx rb
 R:Hs6 wx rb (.bool false) (.slice none 0 0) (.int .i64 0) (.bool false) (.slice none 0 0) (.int .i64 0)
 cs:∀j,j<3→wx.cell? ⟨bs,j*3,none⟩=some (.bool (P j).g)∧wx.cell? ⟨bs,j*3+1,none⟩=some (.slice (pv j).1 (pv j).2.1 (pv j).2.2)∧wx.cell? ⟨bs,j*3+2,none⟩=some (.int .i64 (P j).e)∧NI wx (.agg #[.bool (P j).g,.slice (pv j).1 (pv j).2.1 (pv j).2.2,.int .i64 (P j).e]) (P j)
 wr:w.heap.size≤rb
 rl:rb<bl
 ls:bl+1<bs
 lt:bs<wx.heap.size
theorem MSt.keep {w wx W:World} {rb bl bs:Nat} {P:Nat→Nm} {pv:Nat→Option Addr×Nat×Nat} {lo hi:Nm} (h:MSt w wx rb bl bs P pv lo hi) (q:Below wx.heap.size wx W):MSt w W rb bl bs P pv lo hi:=by
 obtain⟨a,b,c,l1,l2⟩:=h.L
 obtain⟨d,e,f,h1,h2⟩:=h.H
 exact⟨later h.hb q,⟨a,b,c,l1.keep q,l2.keep q⟩,⟨d,e,f,h1.keep q,h2.keep q⟩,h.BL.keep q,h.BH.keep q,h.B.keep q,h.R.keep q,fun j hj=>by obtain⟨c0,c1,c2,n⟩:=h.cs j hj;exact⟨keepsC q c0 h.lt,keepsC q c1 h.lt,keepsC q c2 h.lt,n.keep q⟩,h.wr,h.rl,h.ls,Nat.lt_of_lt_of_le h.lt q.size⟩
theorem far3c {w:World} {b c k:Nat} {x y z u:Value} (h:c≠b) (hc:w.cell? ⟨c,k,none⟩=some u):(((w.setCell ⟨b,0,none⟩ x).setCell ⟨b,1,none⟩ y).setCell ⟨b,2,none⟩ z).cell? ⟨c,k,none⟩=some u:=by
 rw [Bex.one _ _ _ h,Bex.one _ _ _ h,Bex.one _ _ _ h]
 exact hc
theorem Has3.far3 {w:World} {b c:Nat} {u v t:Value} (h:Has3 w b u v t) (hne:b≠c) (x y z:Value):Has3 (((w.setCell ⟨c,0,none⟩ x).setCell ⟨c,1,none⟩ y).setCell ⟨c,2,none⟩ z) b u v t:=by
 have k:Bex c w (((w.setCell ⟨c,0,none⟩ x).setCell ⟨c,1,none⟩ y).setCell ⟨c,2,none⟩ z):=((Bex.set ⟨Nat.le_refl _,fun _ _ _=>rfl⟩ 0 x).set 1 y).set 2 z
 obtain⟨a0,a1,a2,f0,f1,f2,l⟩:=h
 exact⟨k.cell a0 l hne,k.cell a1 l hne,k.cell a2 l hne,k.frozen f0 l hne,k.frozen f1 l hne,k.frozen f2 l hne,Nat.lt_of_lt_of_le l k.size⟩
theorem MSt.putL {w wx:World} {rb bl bs:Nat} {P:Nat→Nm} {pv:Nat→Option Addr×Nat×Nat} {lo hi n:Nm} {a:Option Addr} {b c:Nat} (h:MSt w wx rb bl bs P pv lo hi) (hn:NI wx (.agg #[.bool n.g,.slice a b c,.int .i64 n.e]) n):MSt w (((wx.setCell ⟨bl,0,none⟩ (.bool n.g)).setCell ⟨bl,1,none⟩ (.slice a b c)).setCell ⟨bl,2,none⟩ (.int .i64 n.e)) rb bl bs P pv n hi:=by
 obtain⟨_,_,_,l1, -⟩:=h.L
 obtain⟨d,e,f,h1,h2⟩:=h.H
 have q1:=h.wr
 have q2:=h.rl
 have q3:=h.ls
 refine⟨((h.hb.setCell (by show w.heap.size≤bl;omega) _).setCell (by show w.heap.size≤bl;omega) _).setCell (by show w.heap.size≤bl;omega) _,⟨a,b,c,l1.put3 (.bool n.g) (.slice a b c) (.int .i64 n.e),hn.put3 h.BL (.bool n.g) (.slice a b c) (.int .i64 n.e)⟩,⟨d,e,f,h1.far3 (by omega) (.bool n.g) (.slice a b c) (.int .i64 n.e),h2.put3 h.BL (.bool n.g) (.slice a b c) (.int .i64 n.e)⟩,h.BL.put3 _ (.bool n.g) (.slice a b c) (.int .i64 n.e),h.BH.put3 _ (.bool n.g) (.slice a b c) (.int .i64 n.e),h.B.put3 _ (.bool n.g) (.slice a b c) (.int .i64 n.e),h.R.far3 (by omega) (.bool n.g) (.slice a b c) (.int .i64 n.e),fun j hj=>?_,h.wr,h.rl,h.ls,by simp only [World.size_setCell];exact h.lt⟩
 obtain⟨c0,c1,c2,m⟩:=h.cs j hj
 exact⟨far3c (by omega) c0,far3c (by omega) c1,far3c (by omega) c2,m.put3 h.BL (.bool n.g) (.slice a b c) (.int .i64 n.e)⟩
theorem MSt.putH {w wx:World} {rb bl bs:Nat} {P:Nat→Nm} {pv:Nat→Option Addr×Nat×Nat} {lo hi n:Nm} {a:Option Addr} {b c:Nat} (h:MSt w wx rb bl bs P pv lo hi) (hn:NI wx (.agg #[.bool n.g,.slice a b c,.int .i64 n.e]) n):MSt w (((wx.setCell ⟨bl+1,0,none⟩ (.bool n.g)).setCell ⟨bl+1,1,none⟩ (.slice a b c)).setCell ⟨bl+1,2,none⟩ (.int .i64 n.e)) rb bl bs P pv lo n:=by
 obtain⟨_,_,_,l1, -⟩:=h.H
 obtain⟨d,e,f,h1,h2⟩:=h.L
 have q1:=h.wr
 have q2:=h.rl
 have q3:=h.ls
 refine⟨((h.hb.setCell (by show w.heap.size≤bl+1;omega) _).setCell (by show w.heap.size≤bl+1;omega) _).setCell (by show w.heap.size≤bl+1;omega) _,⟨d,e,f,h1.far3 (by omega) (.bool n.g) (.slice a b c) (.int .i64 n.e),h2.put3 h.BH (.bool n.g) (.slice a b c) (.int .i64 n.e)⟩,⟨a,b,c,l1.put3 (.bool n.g) (.slice a b c) (.int .i64 n.e),hn.put3 h.BH (.bool n.g) (.slice a b c) (.int .i64 n.e)⟩,h.BL.put3 _ (.bool n.g) (.slice a b c) (.int .i64 n.e),h.BH.put3 _ (.bool n.g) (.slice a b c) (.int .i64 n.e),h.B.put3 _ (.bool n.g) (.slice a b c) (.int .i64 n.e),h.R.far3 (by omega) (.bool n.g) (.slice a b c) (.int .i64 n.e),fun j hj=>?_,h.wr,h.rl,h.ls,by simp only [World.size_setCell];exact h.lt⟩
 obtain⟨c0,c1,c2,m⟩:=h.cs j hj
 exact⟨far3c (by omega) c0,far3c (by omega) c1,far3c (by omega) c2,m.put3 h.BH (.bool n.g) (.slice a b c) (.int .i64 n.e)⟩
end Go.Proofs.YtopfabemfbdccaaGreat
