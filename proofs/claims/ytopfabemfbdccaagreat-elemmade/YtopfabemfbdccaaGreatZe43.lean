/- The reference's numbers between two: atanh, Ln2. A region that draws the order of its first operations and then has others one by one: the first ones are walked under a condition that the others may break. The reference's numbers between two: slope, Pi. The reference's numbers between two: what is asked of them, as checks that are worked out. The reference's numbers between two: Pi, its walk and what is asked of its numbers, as checks. -/
import Derived.Test.YtopfabemfbdccaaGreatZe42
import Derived.Test.YtopfabemfbdccaaGreatZe28
import Derived.Deep.RegionHeld3
namespace Go.Proofs.YtopfabemfbdccaaGreat
open Go.ChangeShapes Go.WideShapes Go.ChangeAt Go.RowKit
def OddOk (q:Pr):Prop:=SmP q∧(∀i,i<52→StepOk q (oddN q i).1 (oddN q i).2 (2*i+1))∧ArOk (oddN q 52).1 (-180)
theorem oddk_m {w:World} {vq:Value} {q:Pr} (hq:PI w vq q) (h:OddOk q) :
   Calls Tryz.prog 79 #[vq] w fun r w'=>(∃v,r=.returned v∧PI w' v (oddX q))∧Below w.heap.size w w':=odds_m hq h.1 h.2.1 h.2.2
def atanhX (x:Pr):Pr:=mulX x (oddX (mulX x x))
def AtOk (x:Pr):Prop:=SmP x∧MulOk x x∧OddOk (mulX x x)∧SmP (oddX (mulX x x))∧MulOk x (oddX (mulX x x))
def DivOk (x y:Pr):Prop:=(SmP x∧SmP y)∧(x.a.g=false∧x.b.g=false)∧(x.a.m≠0∧x.b.m≠0∧y.a.m≠0∧y.b.m≠0)∧(bitsN x.a.m≤200+bitsN y.a.m∧bitsN x.a.m≤200+bitsN y.b.m∧bitsN x.b.m≤200+bitsN y.a.m∧bitsN x.b.m≤200+bitsN y.b.m)∧(Sm (quotX x.a y.b true)∧Sm (quotX x.b y.a false))
theorem divk_m {w:World} {vx vy:Value} {x y:Pr} (hx:PI w vx x) (hy:PI w vy y) (h:DivOk x y) :
   Calls Tryz.prog 36 #[vx,vy] w fun r w'=>(∃v,r=.returned v∧PI w' v (divX x y))∧Below w.heap.size w w':=by
 obtain⟨⟨h1,h2⟩,⟨h3,h4⟩,⟨h5,h6,h7,h8⟩,⟨b0,b1,b2,b3⟩,h9,ha⟩:=h
 exact div_m hx hy h1 h2 h3 h4 h5 h6 h7 h8 b0 b1 b2 b3 h9 ha
def AddOk (x y:Pr):Prop:=SmP x∧SmP y∧Sm (sumX x.a y.a)∧Sm (sumX x.b y.b)
theorem addk_m {w:World} {vx vy:Value} {x y:Pr} (hx:PI w vx x) (hy:PI w vy y) (h:AddOk x y) :
   Calls Tryz.prog 37 #[vx,vy] w fun r w'=>(∃v,r=.returned v∧PI w' v (addX x y))∧Below w.heap.size w w':=add_m hx hy h.1 h.2.1 h.2.2.1 h.2.2.2
theorem int5_m (w:World):Calls Tryz.prog 35 #[.int .i64 5] w fun r w'=>(∃v,r=.returned v∧PI w' v (ofX (intX 5)))∧Below w.heap.size w w':=intP_m 5 (by omega) w
theorem int7_m (w:World):Calls Tryz.prog 35 #[.int .i64 7] w fun r w'=>(∃v,r=.returned v∧PI w' v (ofX (intX 7)))∧Below w.heap.size w w':=intP_m 7 (by omega) w
set_option maxHeartbeats 1600000 in
theorem atanh_m {w:World} {vx:Value} {x:Pr} (hx:PI w vx x) (h:AtOk x) :
   Calls Tryz.prog 38 #[vx] w fun r w'=>(∃v,r=.returned v∧PI w' v (atanhX x))∧Below w.heap.size w w':=by
 obtain⟨xo0,xl0,xc0,xo1,xl1,xc1,rfl,xn0,xn1⟩:=hx.shape
 unfold atanhX
 obtain⟨h1,h2,h3,h4,h5⟩:=h
 have Xx:=(hs6_new w (.bool x.a.g) (.slice xo0 xl0 xc0) (.int .i64 x.a.e) (.bool x.b.g) (.slice xo1 xl1 xc1) (.int .i64 x.b.e) 31).alloc (.cells #[.bool false,.slice none 0 0,.int .i64 0,.bool false,.slice none 0 0,.int .i64 0] 31)
 have R:=hs6_new (w.alloc (.cells #[.bool x.a.g,.slice xo0 xl0 xc0,.int .i64 x.a.e,.bool x.b.g,.slice xo1 xl1 xc1,.int .i64 x.b.e] 31)) (.bool false) (.slice none 0 0) (.int .i64 0) (.bool false) (.slice none 0 0) (.int .i64 0) 31
 have B:=Boxed.newP (w.alloc (.cells #[.bool x.a.g,.slice xo0 xl0 xc0,.int .i64 x.a.e,.bool x.b.g,.slice xo1 xl1 xc1,.int .i64 x.b.e] 31)) #[.bool false,.slice none 0 0,.int .i64 0,.bool false,.slice none 0 0,.int .i64 0]
 have HB:Below w.heap.size w ((w.alloc (.cells #[.bool x.a.g,.slice xo0 xl0 xc0,.int .i64 x.a.e,.bool x.b.g,.slice xo1 xl1 xc1,.int .i64 x.b.e] 31)).alloc (.cells #[.bool false,.slice none 0 0,.int .i64 0,.bool false,.slice none 0 0,.int .i64 0] 31)):=by go_grown
 replace xn0:=xn0.keep HB
 replace xn1:=xn1.keep HB
 simp only [World.size_alloc] at R B
 go_enter Tryz.func38,Tryz.ntmps38
 go_upto_region 1 with fail
 generalize ((w.alloc (.cells #[.bool x.a.g,.slice xo0 xl0 xc0,.int .i64 x.a.e,.bool x.b.g,.slice xo1 xl1 xc1,.int .i64 x.b.e] 31)).alloc (.cells #[.bool false,.slice none 0 0,.int .i64 0,.bool false,.slice none 0 0,.int .i64 0] 31))=V1 at *
 have HD:Below V1.heap.size V1 V1.drew:=(Below.refl _ _).drew
 replace Xx:=Xx.keep HD
 replace R:=R.keep HD
 replace B:=B.keep HD
 replace xn0:=xn0.keep HD
 replace xn1:=xn1.keep HD
 replace HB:=later HB HD
 clear HD
 have nex:w.heap.size≠w.heap.size+1:=by omega
 go_region_held3 (fun w'=>w'.cell? ⟨w.heap.size,0,none⟩=some (.bool x.a.g)∧w'.cell? ⟨w.heap.size,1,none⟩=some (.slice xo0 xl0 xc0)∧w'.cell? ⟨w.heap.size,2,none⟩=some (.int .i64 x.a.e)∧w'.cell? ⟨w.heap.size,3,none⟩=some (.bool x.b.g)∧w'.cell? ⟨w.heap.size,4,none⟩=some (.slice xo1 xl1 xc1)∧w'.cell? ⟨w.heap.size,5,none⟩=some (.int .i64 x.b.e)) (first | with_reducible exact⟨Xx.c0,Xx.c1,Xx.c2,Xx.c3,Xx.c4,Xx.c5⟩ | with_reducible exact⟨far6 nex Xx.c0,far6 nex Xx.c1,far6 nex Xx.c2,far6 nex Xx.c3,far6 nex Xx.c4,far6 nex Xx.c5⟩ | go_keep)
   (first
     | (go_at_call 78;with_reducible refine (mulk_m (PI.of xn0 xn1) (PI.of xn0 xn1) h1 h1 h2).mono ?_;rintro _ Wm1 ⟨⟨vm1,rfl,m1⟩,hb1⟩;obtain⟨m1o0,m1l0,m1c0,m1o1,m1l1,m1c1,rfl, -, -⟩:=m1.shape;replace Xx:=Xx.keep hb1;replace R:=R.keep hb1;replace B:=B.keep hb1;replace xn0:=xn0.keep hb1;replace xn1:=xn1.keep hb1;replace HB:=later HB hb1;clear hb1)
     | (go_at_call 79;with_reducible refine (oddk_m m1 h3).mono ?_;rintro _ Wm2 ⟨⟨vm2,rfl,m2⟩,hb1⟩;obtain⟨m2o0,m2l0,m2c0,m2o1,m2l1,m2c1,rfl, -, -⟩:=m2.shape;replace Xx:=Xx.keep hb1;replace R:=R.keep hb1;replace B:=B.keep hb1;replace xn0:=xn0.keep hb1;replace xn1:=xn1.keep hb1;replace m1:=m1.keep hb1;replace HB:=later HB hb1;clear hb1)
     | (go_at_call 78;with_reducible refine (mulk_m (PI.of xn0 xn1) m2 h1 h4 h5).mono ?_;rintro _ Wm3 ⟨⟨vm3,rfl,m3⟩,hb1⟩;obtain⟨m3o0,m3l0,m3c0,m3o1,m3l1,m3c1,rfl, -, -⟩:=m3.shape;replace Xx:=Xx.keep hb1;replace R:=R.keep hb1;replace B:=B.keep hb1;replace xn0:=xn0.keep hb1;replace xn1:=xn1.keep hb1;replace m1:=m1.keep hb1;replace m2:=m2.keep hb1;replace HB:=later HB hb1;clear hb1;obtain⟨r0,r1,r2,r3,r4,r5,g0,g1,g2,g3,g4,g5,rl⟩:=id R))
 all_goals
   go_wp2_with fail
   refine bodyPost_ret (v:=.agg #[.bool (mulX x (oddX (mulX x x))).a.g,.slice m3o0 m3l0 m3c0,.int .i64 (mulX x (oddX (mulX x x))).a.e,.bool (mulX x (oddX (mulX x x))).b.g,.slice m3o1 m3l1 m3c1,.int .i64 (mulX x (oddX (mulX x x))).b.e]) (by simp [results,Tryz.results38,go_sem, *]) rfl ⟨⟨_,rfl, ?_⟩, ?_⟩
   · have hp:=m3
     repeat' (first | (with_reducible exact hp) | (with_reducible exact B) | (with_reducible refine PI.put ?_ ?_ _ _) | (with_reducible refine Boxed.set ?_ _ _ _))
   · repeat' (first | (with_reducible exact HB) | (with_reducible refine Below.setCell ?_ ?_ _) | go_size)
def thirdX:Pr:=divX (ofX (intX 1)) (ofX (intX 5))
def seventhX:Pr:=divX (ofX (intX 1)) (ofX (intX 7))
def ln2X:Pr:=shiftX (addX (atanhX thirdX) (atanhX seventhX)) 1
def Ln2Ok:Prop:=DivOk (ofX (intX 1)) (ofX (intX 5))∧DivOk (ofX (intX 1)) (ofX (intX 7))∧AtOk thirdX∧AtOk seventhX∧AddOk (atanhX thirdX) (atanhX seventhX)∧SmP (addX (atanhX thirdX) (atanhX seventhX))
theorem ln2_core {one five seven third sev a1 a2 su:Pr} (w:World)
   (c1:∀w,Calls Tryz.prog 35 #[.int .i64 1] w fun r w'=>(∃v,r=.returned v∧PI w' v one)∧Below w.heap.size w w')
   (c5:∀w,Calls Tryz.prog 35 #[.int .i64 5] w fun r w'=>(∃v,r=.returned v∧PI w' v five)∧Below w.heap.size w w')
   (c7:∀w,Calls Tryz.prog 35 #[.int .i64 7] w fun r w'=>(∃v,r=.returned v∧PI w' v seven)∧Below w.heap.size w w')
   (d5:∀w vx vy,PI w vx one→PI w vy five→Calls Tryz.prog 36 #[vx,vy] w fun r w'=>(∃v,r=.returned v∧PI w' v third)∧Below w.heap.size w w')
   (d7:∀w vx vy,PI w vx one→PI w vy seven→Calls Tryz.prog 36 #[vx,vy] w fun r w'=>(∃v,r=.returned v∧PI w' v sev)∧Below w.heap.size w w')
   (t5:∀w vx,PI w vx third→Calls Tryz.prog 38 #[vx] w fun r w'=>(∃v,r=.returned v∧PI w' v a1)∧Below w.heap.size w w')
   (t7:∀w vx,PI w vx sev→Calls Tryz.prog 38 #[vx] w fun r w'=>(∃v,r=.returned v∧PI w' v a2)∧Below w.heap.size w w')
   (cs:∀w vx vy,PI w vx a1→PI w vy a2→Calls Tryz.prog 37 #[vx,vy] w fun r w'=>(∃v,r=.returned v∧PI w' v su)∧Below w.heap.size w w') (ss:SmP su) :
   Calls Tryz.prog 8 #[] w fun r w'=>(∃v,r=.returned v∧PI w' v (shiftX su 1))∧Below w.heap.size w w':=by
 have R:=hs6_new w (.bool false) (.slice none 0 0) (.int .i64 0) (.bool false) (.slice none 0 0) (.int .i64 0) 31
 have B:=Boxed.newP w #[.bool false,.slice none 0 0,.int .i64 0,.bool false,.slice none 0 0,.int .i64 0]
 have HB:Below w.heap.size w (w.alloc (.cells #[.bool false,.slice none 0 0,.int .i64 0,.bool false,.slice none 0 0,.int .i64 0] 31)):=by go_grown
 go_enter Tryz.func8,Tryz.ntmps8
 go_upto_region 1 with fail
 generalize (w.alloc (.cells #[.bool false,.slice none 0 0,.int .i64 0,.bool false,.slice none 0 0,.int .i64 0] 31))=V1 at *
 go_upto_region 2 with (first
   | (go_at_call_of 35 (Value.int .i64 1);(with_reducible refine (c1 _).mono ?_);rintro _ V2 ⟨⟨v2,rfl,n1⟩,hb1⟩;obtain⟨no,nl,nc,np,nk,nd,rfl, -, -⟩:=id n1.shape;replace R:=R.keep hb1;replace B:=B.keep hb1;replace HB:=later HB hb1;clear hb1)
   | (go_at_call_of 35 (Value.int .i64 5);(with_reducible refine (c5 _).mono ?_);rintro _ V3 ⟨⟨v3,rfl,n5⟩,hb1⟩;obtain⟨fo,fl,fc,fp,fk,fd,rfl, -, -⟩:=id n5.shape;replace n1:=n1.keep hb1;replace R:=R.keep hb1;replace B:=B.keep hb1;replace HB:=later HB hb1;clear hb1)
   | (go_at_call 36;(with_reducible refine (d5 _ _ _ n1 n5).mono ?_);rintro _ V4 ⟨⟨v4,rfl,nt⟩,hb1⟩;obtain⟨ho,hl,hc,hp,hk,hd,rfl, -, -⟩:=id nt.shape;replace R:=R.keep hb1;replace B:=B.keep hb1;replace HB:=later HB hb1;clear hb1 n1 n5))
 have hb1:Below V4.heap.size V4 (V4.alloc (.cells #[.bool third.a.g,.slice ho hl hc,.int .i64 third.a.e,.bool third.b.g,.slice hp hk hd,.int .i64 third.b.e] 31)):=by go_grown
 have T:=hs6_new V4 (.bool third.a.g) (.slice ho hl hc) (.int .i64 third.a.e) (.bool third.b.g) (.slice hp hk hd) (.int .i64 third.b.e) 31
 replace nt:=nt.keep hb1
 replace R:=R.keep hb1;replace B:=B.keep hb1;replace HB:=later HB hb1
 clear hb1
 generalize V4.alloc (.cells #[.bool third.a.g,.slice ho hl hc,.int .i64 third.a.e,.bool third.b.g,.slice hp hk hd,.int .i64 third.b.e] 31)=V5 at *
 obtain⟨y0,y1,y2,y3,y4,y5, -, -, -, -, -, -,yL⟩:=id T
 go_wp2_with (first
   | (go_at_call_of 38 (Value.agg #[.bool third.a.g,.slice ho hl hc,.int .i64 third.a.e,.bool third.b.g,.slice hp hk hd,.int .i64 third.b.e]);(with_reducible refine (t5 _ _ nt).mono ?_);rintro _ V6 ⟨⟨v6,rfl,na⟩,hb1⟩;obtain⟨ao,al,ac,ap,ak,ad,rfl, -, -⟩:=id na.shape;replace R:=R.keep hb1;replace B:=B.keep hb1;replace HB:=later HB hb1;clear hb1)
   | (go_at_call_of 35 (Value.int .i64 1);(with_reducible refine (c1 _).mono ?_);rintro _ V7 ⟨⟨v7,rfl,n1⟩,hb1⟩;obtain⟨no,nl,nc,np,nk,nd,rfl, -, -⟩:=id n1.shape;replace na:=na.keep hb1;replace R:=R.keep hb1;replace B:=B.keep hb1;replace HB:=later HB hb1;clear hb1)
   | (go_at_call_of 35 (Value.int .i64 7);(with_reducible refine (c7 _).mono ?_);rintro _ V8 ⟨⟨v8,rfl,n7⟩,hb1⟩;obtain⟨so,sl,sc,sp,sk,sd,rfl, -, -⟩:=id n7.shape;replace na:=na.keep hb1;replace n1:=n1.keep hb1;replace R:=R.keep hb1;replace B:=B.keep hb1;replace HB:=later HB hb1;clear hb1)
   | (go_at_call 36;(with_reducible refine (d7 _ _ _ n1 n7).mono ?_);rintro _ V9 ⟨⟨v9,rfl,nv⟩,hb1⟩;obtain⟨vo,vl,vc,vp,vk,vd,rfl, -, -⟩:=id nv.shape;replace na:=na.keep hb1;replace R:=R.keep hb1;replace B:=B.keep hb1;replace HB:=later HB hb1;clear hb1)
   | (go_at_call 38;(with_reducible refine (t7 _ _ nv).mono ?_);rintro _ Va ⟨⟨va,rfl,nb⟩,hb1⟩;obtain⟨bo,bl,bc,bp,bk,bd,rfl, -, -⟩:=id nb.shape;replace na:=na.keep hb1;replace R:=R.keep hb1;replace B:=B.keep hb1;replace HB:=later HB hb1;clear hb1)
   | (go_at_call 37;(with_reducible refine (cs _ _ _ na nb).mono ?_);rintro _ Vb ⟨⟨vb,rfl,nc⟩,hb1⟩;obtain⟨co,cl,cc,cp,ck,cd,rfl, -, -⟩:=id nc.shape;replace R:=R.keep hb1;replace B:=B.keep hb1;replace HB:=later HB hb1;clear hb1)
   | (go_at_call 33;(with_reducible refine (shift_m nc ss 1 (by omega) (by omega)).mono ?_);rintro _ Vc ⟨⟨vc,rfl,nd⟩,hb1⟩;obtain⟨dO,dl,dc,dp,dk,dd,rfl, -, -⟩:=id nd.shape;replace R:=R.keep hb1;replace B:=B.keep hb1;replace HB:=later HB hb1;clear hb1;obtain⟨r0,r1,r2,r3,r4,r5,g0,g1,g2,g3,g4,g5,rl⟩:=id R))
 refine bodyPost_ret (v:=.agg #[.bool (shiftX su 1).a.g,.slice dO dl dc,.int .i64 (shiftX su 1).a.e,.bool (shiftX su 1).b.g,.slice dp dk dd,.int .i64 (shiftX su 1).b.e]) (by simp [results,Tryz.results8,go_sem, *]) rfl ⟨⟨_,rfl, ?_⟩, ?_⟩
 · repeat' (first | (with_reducible exact nd) | (with_reducible exact B) | (with_reducible refine PI.put ?_ ?_ _ _) | (with_reducible refine Boxed.set ?_ _ _ _))
 · repeat' (first | (with_reducible exact HB) | (with_reducible refine Below.setCell ?_ ?_ _) | go_size)
theorem ln2_m (h:Ln2Ok) (w:World):Calls Tryz.prog 8 #[] w fun r w'=>(∃v,r=.returned v∧PI w' v ln2X)∧Below w.heap.size w w' :=
 ln2_core w int1_m int5_m int7_m (fun _ _ _ a b=>divk_m a b h.1) (fun _ _ _ a b=>divk_m a b h.2.1) (fun _ _ a=>atanh_m a h.2.2.1) (fun _ _ a=>atanh_m a h.2.2.2.1) (fun _ _ _ a b=>addk_m a b h.2.2.2.2.1) h.2.2.2.2.2
section
variable {P:Program} {ops hd:Array Oper}
def HeadQ (N:Act→World→Prop) (Q:Exit→Act→World→Prop):Exit→Act→World→Prop
 | .normal,a,w=>N a w
 | e,a,w=>Q e a w
theorem letsOut_head {N:Act→World→Prop} {Q:Exit→Act→World→Prop} (h:LetsOut (HeadQ N Q)):LetsOut Q:=h
theorem operWp_head {o:Oper} {N:Act→World→Prop} {Q:Exit→Act→World→Prop} {K K':Act→World→Prop} {a:Act} {w:World} (hK:∀a w,K a w→K' a w)
   (h:o.wp P a w K (HeadQ N Q)):o.wp P a w K' Q:=by
 unfold Oper.wp at *
 generalize (execOp a.eval o).run P w=r at *
 cases r with
 | ok n w' =>
   cases n <;> simp only [Oper.upon] at h ⊢ <;>
     first
       | exact hK _ _ h
       | exact Calls.mono h (fun e w'' he=>by cases e <;> first | exact hK _ _ he | exact he)
       | exact Rows.mono h (fun _ _ he=>hK _ _ he)
 | halt x w'=>cases x <;> simp only [Oper.upon] at h ⊢ <;> exact h
theorem wpOp_head {md:Region.Mode} {n j:Nat} {N:Act→World→Prop} {Q:Exit→Act→World→Prop} {K K':Act→World→Prop} {a:Act} {w:World} (H:Heads md ops hd n) (hj:j<n) (hK:∀a w,K a w→K' a w)
   (h:wpOp P hd (HeadQ N Q) j K a w):wpOp P ops Q j K' a w:=by
 have e:=H.same j hj
 unfold wpOp at *
 rw [e] at h
 cases ho:ops[j]? with
 | none=>rw [ho] at h;exact hK _ _ h
 | some o =>
   rw [ho] at h
   simp only at h ⊢
   rw [head_wanted H hj ho] at h
   split
   · rename_i hw;simp only [hw,if_true] at h;exact h.imp (operWp_head hK) (fun q=>⟨q.1,letsOut_head q.2⟩)
   · rename_i hw;simp only [hw] at h;exact hK _ _ h
theorem head_splitA {md:Region.Mode} {n g:Nat} {Q:Exit→Act→World→Prop} {N:Act→World→Prop} (H:Heads md ops hd n) (hs:Region.sinkB md ops n=true) (hc:Region.chainB md ops n=true)
   (hT:∀listed a w,HeadInv md ops n listed→(∀j,j<n→listed.getD j true=true)→N a w→wpAny P md ops Q g listed a w) :
   ∀(f:Nat) (lh listed:Array Bool) (a:Act) (w:World),HeadInv md ops n listed→lh.size=n→(∀j,j<n→lh.getD j true=listed.getD j true)→wpAny P md hd (HeadQ N Q) f lh a w→wpAny P md ops Q (f+g) listed a w:=by
 have up:∀(lh listed:Array Bool),HeadInv md ops n listed→lh.size=n→(∀j,j<n→lh.getD j true=listed.getD j true)→∀j,j<n→(j∈Region.ready md hd lh↔j∈Region.ready md ops listed):=fun lh listed inv hsz ag j hj=>by
   have hn:=H.lt
   rw [mem_ready,mem_ready,ag j hj,H.same j hj]
   have key:∀o,ops[j]?=some o→∀e∈o.after,Region.binds md e=true→lh.getD e.on false=listed.getD e.on false:=fun o ho e he hb=>by
     have hl:=H.low j o hj ho e he hb
     rw [getD_any (l:=lh) (by omega) false true,getD_any (l:=listed) (by rw [inv.size];omega) false true]
     exact ag e.on (by omega)
   refine and_congr_right fun _=>⟨fun ⟨o,ho,h⟩=>⟨o,ho,fun e he hb=>?_⟩,fun ⟨o,ho,h⟩=>⟨o,ho,fun e he hb=>?_⟩⟩
   · rw [←key o ho e he hb];exact h e he hb
   · rw [key o ho e he hb];exact h e he hb
 have full:∀(lh listed:Array Bool),HeadInv md ops n listed→lh.size=n→(∀j,j<n→lh.getD j true=listed.getD j true)→Region.ready md hd lh=[]→∀j,j<n→listed.getD j true=true:=fun lh listed inv hsz ag hr j=>by
   induction j using Nat.strongRecOn with
   | _ j ih =>
     intro hj
     cases hl:listed.getD j true with
     | true=>rfl
     | false =>
       have hn:=H.lt
       have:j∈Region.ready md hd lh:=by
         rw [up lh listed inv hsz ag j hj,mem_ready]
         refine⟨hl,ops[j]'(by omega),by simp,fun e he hb=>?_⟩
         have lw:=H.low j (ops[j]'(by omega)) hj (by simp) e he hb
         rw [getD_any (l:=listed) (by rw [inv.size];omega) false true]
         exact ih e.on lw (by omega)
       rw [hr] at this
       cases this
 intro f
 induction f with
 | zero =>
   intro lh listed a w inv hsz ag h
   rw [Nat.zero_add]
   exact hT listed a w inv (full lh listed inv hsz ag h.1) h.2
 | succ f ih =>
   intro lh listed a w inv hsz ag h
   by_cases hr:Region.ready md hd lh=[]
   · exact any_more' (hT listed a w inv (full lh listed inv hsz ag hr) (h.1 hr)) _
   · obtain⟨i,hi⟩:=List.exists_mem_of_ne_nil _ hr
     have hin:i<n:=by
       obtain⟨_,o,ho,_⟩:=mem_ready.1 hi
       have:=(Array.getElem?_eq_some_iff.1 ho).1
       rw [H.size] at this
       exact this
     have hi':=(up lh listed inv hsz ag i hin).1 hi
     rw [show f+1+g=(f+g)+1 by omega]
     refine⟨fun h0=>(by rw [h0] at hi';cases hi'),fun j hj=>?_⟩
     have hjn:j<n:=by
       rcases Nat.lt_or_ge j n with c | c
       · exact c
       · exact absurd hj (tail_waits hs hc H.lt inv _ i rfl hin (mem_ready.1 hi').1 j c)
     refine wpOp_head H hjn (fun a' w' hK=>ih (lh.setIfInBounds j true) (listed.setIfInBounds j true) a' w' (inv.set hj hjn) (by simp [hsz]) (fun k hk=>?_) hK) (h.2 j ((up lh listed inv hsz ag j hjn).2 hj))
     by_cases hjk:j=k
     · subst hjk
       have:=H.lt
       simp [hsz,hk,inv.size,show j<ops.size by omega]
     · rw [Go.getD_set_ne true hjk,Go.getD_set_ne true hjk]
       exact ag k hk
def tailA (l:List Oper) (n:Nat):Bool:=decide (n<l.length)&&Region.sinkB .any l.toArray n&&Region.chainB .any l.toArray n&&lowB l n&&Region.seqB .any l.toArray (l.length-n) n (List.replicate n true++List.replicate (l.length-n) false).toArray
theorem held_tail {id:Nat} {Q:Exit→Act→World→Prop} {a:Act} {w:World} {l:List Oper} (n:Nat) (S:World→Prop) (hm:P.follows .mixedOrders=true) (hB:tailA l n=true) (hS:S w.drew)
   (h:S w.drew→wpAnyH P .any (l.take n).toArray (HeadQ (fun a' w'=>wpList P l.toArray Q (l.drop n) a' w') Q) S n (Array.replicate n false) a w.drew):(Code.region id l.toArray true).wp P Q a w:=by
 simp only [tailA,Bool.and_eq_true,decide_eq_true_eq] at hB
 obtain⟨⟨⟨⟨hn,hs⟩,hc⟩,hlow⟩,hseq⟩:=hB
 have H:=heads_of hn hlow
 have q:=wpAny_of_held _ _ _ _ (h hS)
 refine wp_region_any hm ?_
 have:=head_splitA (P:=P) (Q:=Q) (g:=l.length-n) H hs hc (fun listed a' w' inv full hq=>by
   have e:listed=(List.replicate n true++List.replicate (l.length-n) false).toArray:=by
     have sz:=inv.size
     refine Array.ext (by simp [sz];omega) fun i h1 h2=>?_
     have hi:i<l.length:=by rw [sz] at h1;simpa using h1
     rcases Nat.lt_or_ge i n with c | c
     · have:=full i c
       simp [h1] at this
       simp [this,c]
     · have:=inv.tail i c (by simpa using hi)
       simp [h1] at this
       rw [this]
       simp [c]
   have s:=wpAny_of_seq (P:=P) (md:=.any) (Q':=Q) (l.drop n) n listed a' w' (fun j=>by simp [List.getElem?_drop]) (by rw [e,List.length_drop];exact hseq) hq
   rwa [List.length_drop] at s) n (Array.replicate n false) (Array.replicate l.toArray.size false) a w.drew
   ⟨by simp,fun j oj _ hl=>(by rw [getD_replicate_false] at hl;cases hl),fun t _ ht=>getD_in (by simpa using ht) (getD_replicate_false _ _)⟩ (by simp) (fun j hj=>?_) q
 · rw [show n+(l.length-n)=l.toArray.size by simp;omega] at this
   exact this
 · have hj':j<l.length:=by omega
   simp [hj,hj']
end
def SqrtOk (x:Pr):Prop:=SmP x∧(x.a.m≠0∧x.b.m≠0)∧(bitsN x.a.m≤400∧bitsN x.b.m≤400)∧Sm (rootX x.a true)∧Sm (rootX x.b false)
theorem sqrtk_m {w:World} {vx:Value} {x:Pr} (hx:PI w vx x) (h:SqrtOk x) :
   Calls Tryz.prog 77 #[vx] w fun r w'=>(∃v,r=.returned v∧PI w' v (sqrtX x))∧Below w.heap.size w w':=sqrt_m hx h.1 h.2.1.1 h.2.1.2 h.2.2.1.1 h.2.2.1.2 h.2.2.2.1 h.2.2.2.2
def halfX (x:Pr):Pr:=divX x (addX (ofX (intX 1)) (sqrtX (addX (ofX (intX 1)) (mulX x x))))
def HalfOk (x:Pr):Prop:=SmP x∧MulOk x x∧AddOk (ofX (intX 1)) (mulX x x)∧SqrtOk (addX (ofX (intX 1)) (mulX x x))∧AddOk (ofX (intX 1)) (sqrtX (addX (ofX (intX 1)) (mulX x x)))∧DivOk x (addX (ofX (intX 1)) (sqrtX (addX (ofX (intX 1)) (mulX x x))))
def halfN (x:Pr):Nat→Pr
 | 0=>x
 | i+1=>halfX (halfN x i)
def arcX (x:Pr):Pr:=shiftX (mulX x (oddX (negX (mulX x x)))) 3
def ArcOk (x:Pr):Prop:=SmP x∧MulOk x x∧OddOk (negX (mulX x x))∧SmP (oddX (negX (mulX x x)))∧MulOk x (oddX (negX (mulX x x)))∧SmP (mulX x (oddX (negX (mulX x x))))
def slopeX (x:Pr):Pr:=arcX (halfN x 3)
structure SSt (w wx:World) (xb rb:Nat) (x:Pr):Prop where
 hb:Below w.heap.size w wx
 X:HsP wx xb x
 BX:Boxed wx xb
 B:Boxed wx rb
 R:Hs6 wx rb (.bool false) (.slice none 0 0) (.int .i64 0) (.bool false) (.slice none 0 0) (.int .i64 0)
 wx0:w.heap.size≤xb
 xr:xb<rb
theorem SSt.keep {w wx W:World} {xb rb:Nat} {x:Pr} (h:SSt w wx xb rb x) (k:Below wx.heap.size wx W):SSt w W xb rb x :=
 ⟨later h.hb k,h.X.keep k,h.BX.keep k,h.B.keep k,h.R.keep k,h.wx0,h.xr⟩
theorem SSt.put {w wx:World} {xb rb:Nat} {x n:Pr} {a d:Option Addr} {l c k e:Nat} (h:SSt w wx xb rb x) (hn:PI wx (.agg #[.bool n.a.g,.slice a l c,.int .i64 n.a.e,.bool n.b.g,.slice d k e,.int .i64 n.b.e]) n):SSt w ((((((wx.setCell ⟨xb,0,none⟩ (.bool n.a.g)).setCell ⟨xb,1,none⟩ (.slice a l c)).setCell ⟨xb,2,none⟩ (.int .i64 n.a.e)).setCell ⟨xb,3,none⟩ (.bool n.b.g)).setCell ⟨xb,4,none⟩ (.slice d k e)).setCell ⟨xb,5,none⟩ (.int .i64 n.b.e)) xb rb n:=by
 obtain⟨_,_,_,_,_,_,h1, -⟩:=h.X
 have q0:=h.wx0
 have q1:=h.xr
 exact⟨(((((h.hb.setCell (p:=⟨xb,0,none⟩) q0 _).setCell (p:=⟨xb,1,none⟩) q0 _).setCell (p:=⟨xb,2,none⟩) q0 _).setCell (p:=⟨xb,3,none⟩) q0 _).setCell (p:=⟨xb,4,none⟩) q0 _).setCell (p:=⟨xb,5,none⟩) q0 _,⟨_,_,_,_,_,_,h1.put6 (.bool n.a.g) (.slice a l c) (.int .i64 n.a.e) (.bool n.b.g) (.slice d k e) (.int .i64 n.b.e),hn.put6 h.BX (.bool n.a.g) (.slice a l c) (.int .i64 n.a.e) (.bool n.b.g) (.slice d k e) (.int .i64 n.b.e)⟩,h.BX.put6 _ (.bool n.a.g) (.slice a l c) (.int .i64 n.a.e) (.bool n.b.g) (.slice d k e) (.int .i64 n.b.e),h.B.put6 _ (.bool n.a.g) (.slice a l c) (.int .i64 n.a.e) (.bool n.b.g) (.slice d k e) (.int .i64 n.b.e),h.R.other6 (by omega) (.bool n.a.g) (.slice a l c) (.int .i64 n.a.e) (.bool n.b.g) (.slice d k e) (.int .i64 n.b.e),h.wx0,h.xr⟩
set_option maxRecDepth 4000 in
set_option maxHeartbeats 16000000 in
theorem slope_m {w:World} {vx:Value} {x:Pr} (hx:PI w vx x) (ok:∀i,i<3→HalfOk (halfN x i)) (oa:ArcOk (halfN x 3)) :
   Calls Tryz.prog 34 #[vx] w fun r w'=>(∃v,r=.returned v∧PI w' v (slopeX x))∧Below w.heap.size w w':=by
 obtain⟨xo0,xl0,xc0,xo1,xl1,xc1,rfl, -, -⟩:=id hx.shape
 have OK:Hid (∀i,i<3→HalfOk (halfN x i)):=ok
 have OA:Hid (ArcOk (halfN x 3)):=oa
 clear ok oa
 have Xx:=(hs6_new w (.bool x.a.g) (.slice xo0 xl0 xc0) (.int .i64 x.a.e) (.bool x.b.g) (.slice xo1 xl1 xc1) (.int .i64 x.b.e) 31).alloc (.cells #[.bool false,.slice none 0 0,.int .i64 0,.bool false,.slice none 0 0,.int .i64 0] 31)
 have BX:=(Boxed.newP w #[.bool x.a.g,.slice xo0 xl0 xc0,.int .i64 x.a.e,.bool x.b.g,.slice xo1 xl1 xc1,.int .i64 x.b.e]).keep (show Below (w.alloc (.cells #[.bool x.a.g,.slice xo0 xl0 xc0,.int .i64 x.a.e,.bool x.b.g,.slice xo1 xl1 xc1,.int .i64 x.b.e] 31)).heap.size (w.alloc (.cells #[.bool x.a.g,.slice xo0 xl0 xc0,.int .i64 x.a.e,.bool x.b.g,.slice xo1 xl1 xc1,.int .i64 x.b.e] 31)) ((w.alloc (.cells #[.bool x.a.g,.slice xo0 xl0 xc0,.int .i64 x.a.e,.bool x.b.g,.slice xo1 xl1 xc1,.int .i64 x.b.e] 31)).alloc (.cells #[.bool false,.slice none 0 0,.int .i64 0,.bool false,.slice none 0 0,.int .i64 0] 31)) by go_grown)
 have R:=hs6_new (w.alloc (.cells #[.bool x.a.g,.slice xo0 xl0 xc0,.int .i64 x.a.e,.bool x.b.g,.slice xo1 xl1 xc1,.int .i64 x.b.e] 31)) (.bool false) (.slice none 0 0) (.int .i64 0) (.bool false) (.slice none 0 0) (.int .i64 0) 31
 have B:=Boxed.newP (w.alloc (.cells #[.bool x.a.g,.slice xo0 xl0 xc0,.int .i64 x.a.e,.bool x.b.g,.slice xo1 xl1 xc1,.int .i64 x.b.e] 31)) #[.bool false,.slice none 0 0,.int .i64 0,.bool false,.slice none 0 0,.int .i64 0]
 have HB:Below w.heap.size w ((w.alloc (.cells #[.bool x.a.g,.slice xo0 xl0 xc0,.int .i64 x.a.e,.bool x.b.g,.slice xo1 xl1 xc1,.int .i64 x.b.e] 31)).alloc (.cells #[.bool false,.slice none 0 0,.int .i64 0,.bool false,.slice none 0 0,.int .i64 0] 31)):=by go_grown
 replace hx:=hx.keep HB
 simp only [World.size_alloc] at R B
 have st:SSt w ((w.alloc (.cells #[.bool x.a.g,.slice xo0 xl0 xc0,.int .i64 x.a.e,.bool x.b.g,.slice xo1 xl1 xc1,.int .i64 x.b.e] 31)).alloc (.cells #[.bool false,.slice none 0 0,.int .i64 0,.bool false,.slice none 0 0,.int .i64 0] 31)) w.heap.size (w.heap.size+1) x:=⟨HB,⟨_,_,_,_,_,_,Xx,hx⟩,BX,B,R,Nat.le_refl _,by omega⟩
 clear Xx hx BX R B HB
 go_enter Tryz.func34,Tryz.ntmps34
 go_upto_region 1 with fail
 generalize ((w.alloc (.cells #[.bool x.a.g,.slice xo0 xl0 xc0,.int .i64 x.a.e,.bool x.b.g,.slice xo1 xl1 xc1,.int .i64 x.b.e] 31)).alloc (.cells #[.bool false,.slice none 0 0,.int .i64 0,.bool false,.slice none 0 0,.int .i64 0] 31))=V1 at *
 have HM:Hid (slopeX x=arcX (halfN x 3)):=rfl
 have E0:Hid (halfN x 0=x):=rfl
 go_wp2_with fail
 go_loopg [3] 3 (fun G s3 wx=>∃i:Nat,s3=.int .i64 (i:Int)∧i+G=3∧SSt w wx w.heap.size (w.heap.size+1) (halfN x i))
 case atStart=>exact⟨0,rfl,by omega,by rw [E0.out];exact st⟩
 case round =>
   clear st E0
   obtain⟨i,rfl,hik,st⟩:=hrel
   by_cases ci3:i=3
   · subst ci3
     obtain⟨h1,h2,h3,h4,h5,h6⟩:=OA.out
     clear OK OA
     generalize halfN x 3=s at *
     go_upto_region 5 with fail
     have HD:Below wr.heap.size wr wr.drew:=(Below.refl _ _).drew
     replace st:=st.keep HD
     clear HD
     obtain⟨so,sl,sc,so1,sl1,sc1,X6,XX⟩:=id st.X
     have R:=st.R
     have B:=st.B
     have HB:=st.hb
     have nex:w.heap.size≠w.heap.size+1:=by omega
     clear st
     go_region_held3 (fun w'=>w'.cell? ⟨w.heap.size,0,none⟩=some (.bool s.a.g)∧w'.cell? ⟨w.heap.size,1,none⟩=some (.slice so sl sc)∧w'.cell? ⟨w.heap.size,2,none⟩=some (.int .i64 s.a.e)∧w'.cell? ⟨w.heap.size,3,none⟩=some (.bool s.b.g)∧w'.cell? ⟨w.heap.size,4,none⟩=some (.slice so1 sl1 sc1)∧w'.cell? ⟨w.heap.size,5,none⟩=some (.int .i64 s.b.e)) (first | with_reducible exact⟨X6.c0,X6.c1,X6.c2,X6.c3,X6.c4,X6.c5⟩ | with_reducible exact⟨far6 nex X6.c0,far6 nex X6.c1,far6 nex X6.c2,far6 nex X6.c3,far6 nex X6.c4,far6 nex X6.c5⟩ | go_keep)
       (first
         | (go_at_call 78;(with_reducible refine (mulk_m XX XX h1 h1 h2).mono ?_);rintro _ U0 ⟨⟨v0,rfl,nm⟩,hb1⟩;obtain⟨mo,ml,mc,mp,mk,md,rfl, -, -⟩:=id nm.shape;replace X6:=X6.keep hb1;replace XX:=XX.keep hb1;replace R:=R.keep hb1;replace B:=B.keep hb1;replace HB:=later HB hb1;clear hb1)
         | (go_at_call 80;(with_reducible refine (neg_m nm).mono ?_);rintro _ U1 ⟨⟨v1,rfl,nn⟩,hb1⟩;obtain⟨no,nl,nc,np,nk,nd,rfl, -, -⟩:=id nn.shape;replace X6:=X6.keep hb1;replace XX:=XX.keep hb1;replace R:=R.keep hb1;replace B:=B.keep hb1;replace HB:=later HB hb1;clear hb1)
         | (go_at_call 79;(with_reducible refine (oddk_m nn h3).mono ?_);rintro _ U2 ⟨⟨v2,rfl,no⟩,hb1⟩;obtain⟨qo,ql,qc,qp,qk,qd,rfl, -, -⟩:=id no.shape;replace X6:=X6.keep hb1;replace XX:=XX.keep hb1;replace R:=R.keep hb1;replace B:=B.keep hb1;replace HB:=later HB hb1;clear hb1)
         | (go_at_call 78;(with_reducible refine (mulk_m XX no h1 h4 h5).mono ?_);rintro _ U3 ⟨⟨v3,rfl,np⟩,hb1⟩;obtain⟨po,pl,pc,pp,pk,pd,rfl, -, -⟩:=id np.shape;replace X6:=X6.keep hb1;replace XX:=XX.keep hb1;replace R:=R.keep hb1;replace B:=B.keep hb1;replace HB:=later HB hb1;clear hb1)
         | (go_at_call 33;(with_reducible refine (shift_m np h6 3 (by omega) (by omega)).mono ?_);rintro _ U4 ⟨⟨v4,rfl,ns⟩,hb1⟩;obtain⟨zo,zl,zc,zp,zk,zd,rfl, -, -⟩:=id ns.shape;replace X6:=X6.keep hb1;replace XX:=XX.keep hb1;replace R:=R.keep hb1;replace B:=B.keep hb1;replace HB:=later HB hb1;clear hb1;obtain⟨r0,r1,r2,r3,r4,r5,g0,g1,g2,g3,g4,g5,rl⟩:=id R))
     all_goals
       go_wp2_with fail
       refine bodyPost_ret (v:=.agg #[.bool (shiftX (mulX s (oddX (negX (mulX s s)))) 3).a.g,.slice zo zl zc,.int .i64 (shiftX (mulX s (oddX (negX (mulX s s)))) 3).a.e,.bool (shiftX (mulX s (oddX (negX (mulX s s)))) 3).b.g,.slice zp zk zd,.int .i64 (shiftX (mulX s (oddX (negX (mulX s s)))) 3).b.e]) (by simp [results,Tryz.results34,go_sem, *];done) rfl ⟨⟨_,rfl, ?_⟩, ?_⟩
       · rw [HM.out]
         unfold arcX
         have hp:=ns
         repeat' (first | (with_reducible exact hp) | (with_reducible exact B) | (with_reducible refine PI.put ?_ ?_ _ _) | (with_reducible refine Boxed.set ?_ _ _ _))
       · repeat' (first | (with_reducible exact HB) | (with_reducible refine Below.setCell ?_ ?_ _) | go_size)
   · have hi3:i<3:=by omega
     obtain⟨k1,k2,k3,k4,k5,k6⟩:=OK.out i hi3
     have E1:Hid (halfN x (i+1)=halfX (halfN x i)):=rfl
     clear OK OA HM
     have hlt:(i:Int)<3:=by omega
     generalize halfN x i=s at *
     unfold halfX at E1
     have ci:=int1_m
     have cm:=fun W u v (a:PI W u s) (b:PI W v s)=>mulk_m a b k1 k1 k2
     have ca:=fun W u v (a:PI W u (ofX (intX 1))) (b:PI W v (mulX s s))=>addk_m a b k3
     have cr:=fun W u (a:PI W u (addX (ofX (intX 1)) (mulX s s)))=>sqrtk_m a k4
     have cb:=fun W u v (a:PI W u (ofX (intX 1))) (b:PI W v (sqrtX (addX (ofX (intX 1)) (mulX s s))))=>addk_m a b k5
     have cd:=fun W u v (a:PI W u s) (b:PI W v (addX (ofX (intX 1)) (sqrtX (addX (ofX (intX 1)) (mulX s s)))))=>divk_m a b k6
     clear k1 k2 k3 k4 k5 k6
     generalize divX s (addX (ofX (intX 1)) (sqrtX (addX (ofX (intX 1)) (mulX s s))))=d at *
     generalize addX (ofX (intX 1)) (sqrtX (addX (ofX (intX 1)) (mulX s s)))=b at *
     generalize sqrtX (addX (ofX (intX 1)) (mulX s s))=r at *
     generalize addX (ofX (intX 1)) (mulX s s)=a at *
     generalize mulX s s=m at *
     generalize ofX (intX 1)=one at *
     go_upto_region 4 with fail
     have HD:Below wr.heap.size wr wr.drew:=(Below.refl _ _).drew
     replace st:=st.keep HD
     clear HD
     obtain⟨so,sl,sc,so1,sl1,sc1,X6,XX⟩:=id st.X
     have tag:True:=trivial
     obtain⟨x0,x1,x2,x3,x4,x5, -, -, -, -, -, -,xL⟩:=id X6
     refine held_tail 10 (fun w'=>w'.cell? ⟨w.heap.size,0,none⟩=some (.bool s.a.g)∧w'.cell? ⟨w.heap.size,1,none⟩=some (.slice so sl sc)∧w'.cell? ⟨w.heap.size,2,none⟩=some (.int .i64 s.a.e)∧w'.cell? ⟨w.heap.size,3,none⟩=some (.bool s.b.g)∧w'.cell? ⟨w.heap.size,4,none⟩=some (.slice so1 sl1 sc1)∧w'.cell? ⟨w.heap.size,5,none⟩=some (.int .i64 s.b.e)) (by kernel_rfl) (by kernel_rfl) ⟨X6.c0,X6.c1,X6.c2,X6.c3,X6.c4,X6.c5⟩ (fun hHeld=>?_)
     simp only [List.take_succ_cons,List.take_zero]
     refine wpAnyH_take (i:=0) (v:=.agg #[.bool s.a.g,.slice so sl sc,.int .i64 s.a.e,.bool s.b.g,.slice so1 sl1 sc1,.int .i64 s.b.e]) rfl (by kernel_rfl) (by kernel_rfl) (by kernel_rfl) (fun _ _ _ h=>h) (Or.inl ⟨by rfl,fun w hSw=>by dsimp only at hSw;go_simp⟩) hHeld ?_
     simp only [List.getElem_toArray,List.getElem_cons_zero,Act.put,List.setIfInBounds_toArray,List.set_cons_zero,List.set_cons_succ]
     refine wpAnyH_take (i:=3) (v:=.agg #[.bool s.a.g,.slice so sl sc,.int .i64 s.a.e,.bool s.b.g,.slice so1 sl1 sc1,.int .i64 s.b.e]) rfl (by kernel_rfl) (by kernel_rfl) (by kernel_rfl) (fun _ _ _ h=>h) (Or.inl ⟨by rfl,fun w hSw=>by dsimp only at hSw;go_simp⟩) hHeld ?_
     simp only [List.getElem_toArray,List.getElem_cons_zero,List.getElem_cons_succ,Act.put,List.setIfInBounds_toArray,List.set_cons_zero,List.set_cons_succ]
     refine wpAnyH_take (i:=4) (v:=.agg #[.bool s.a.g,.slice so sl sc,.int .i64 s.a.e,.bool s.b.g,.slice so1 sl1 sc1,.int .i64 s.b.e]) rfl (by kernel_rfl) (by kernel_rfl) (by kernel_rfl) (fun _ _ _ h=>h) (Or.inl ⟨by rfl,fun w hSw=>by dsimp only at hSw;go_simp⟩) hHeld ?_
     simp only [List.getElem_toArray,List.getElem_cons_zero,List.getElem_cons_succ,Act.put,List.setIfInBounds_toArray,List.set_cons_zero,List.set_cons_succ]
     refine wpAnyH_ready (rs:=[1]) (by kernel_rfl) (by simp) ?_
     refine AllReadyH.cons rfl (fun K hK=>?_) AllReadyH.nil
     simp only [List.getElem_toArray,List.getElem_cons_zero,List.getElem_cons_succ,Act.put,List.setIfInBounds_toArray,List.set_cons_zero,List.set_cons_succ]
     go_simp
     go_at_call 35
     (with_reducible refine (ci _).mono ?_)
     rintro _ W0 ⟨⟨v0,rfl,i1⟩,hb1⟩
     obtain⟨go,gl,gc,gp,gk,gd,rfl, -, -⟩:=id i1.shape
     replace st:=st.keep hb1;replace X6:=X6.keep hb1;replace XX:=XX.keep hb1;clear hb1 x0 x1 x2 x3 x4 x5 xL
     obtain⟨x0,x1,x2,x3,x4,x5, -, -, -, -, -, -,xL⟩:=id X6
     dsimp only
     refine hK.out _ _ ⟨X6.c0,X6.c1,X6.c2,X6.c3,X6.c4,X6.c5⟩ (fun hHeld=>?_)
     clear hK K
     try simp only [List.getElem_toArray,List.getElem_cons_zero,List.getElem_cons_succ,Act.put,List.setIfInBounds_toArray,List.set_cons_zero,List.set_cons_succ]
     refine wpAnyH_ready (rs:=[2]) (by kernel_rfl) (by simp) ?_
     refine AllReadyH.cons rfl (fun K hK=>?_) AllReadyH.nil
     simp only [List.getElem_toArray,List.getElem_cons_zero,List.getElem_cons_succ,Act.put,List.setIfInBounds_toArray,List.set_cons_zero,List.set_cons_succ]
     go_simp
     go_at_call 35
     (with_reducible refine (ci _).mono ?_)
     rintro _ W1 ⟨⟨v1,rfl,i2⟩,hb1⟩
     obtain⟨ho,hl,hc,hp,hk,hd,rfl, -, -⟩:=id i2.shape
     replace st:=st.keep hb1;replace X6:=X6.keep hb1;replace XX:=XX.keep hb1;replace i1:=i1.keep hb1;clear hb1 x0 x1 x2 x3 x4 x5 xL
     obtain⟨x0,x1,x2,x3,x4,x5, -, -, -, -, -, -,xL⟩:=id X6
     dsimp only
     refine hK.out _ _ ⟨X6.c0,X6.c1,X6.c2,X6.c3,X6.c4,X6.c5⟩ (fun hHeld=>?_)
     clear hK K
     try simp only [List.getElem_toArray,List.getElem_cons_zero,List.getElem_cons_succ,Act.put,List.setIfInBounds_toArray,List.set_cons_zero,List.set_cons_succ]
     refine wpAnyH_ready (rs:=[5]) (by kernel_rfl) (by simp) ?_
     refine AllReadyH.cons rfl (fun K hK=>?_) AllReadyH.nil
     simp only [List.getElem_toArray,List.getElem_cons_zero,List.getElem_cons_succ,Act.put,List.setIfInBounds_toArray,List.set_cons_zero,List.set_cons_succ]
     go_simp
     go_at_call 78
     (with_reducible refine (cm _ _ _ XX XX).mono ?_)
     rintro _ W2 ⟨⟨v2,rfl,nm⟩,hb1⟩
     obtain⟨mo,ml,mc,mp,mk,md,rfl, -, -⟩:=id nm.shape
     replace st:=st.keep hb1;replace X6:=X6.keep hb1;replace XX:=XX.keep hb1;replace i1:=i1.keep hb1;replace i2:=i2.keep hb1;clear hb1 x0 x1 x2 x3 x4 x5 xL
     obtain⟨x0,x1,x2,x3,x4,x5, -, -, -, -, -, -,xL⟩:=id X6
     dsimp only
     refine hK.out _ _ ⟨X6.c0,X6.c1,X6.c2,X6.c3,X6.c4,X6.c5⟩ (fun hHeld=>?_)
     clear hK K
     try simp only [List.getElem_toArray,List.getElem_cons_zero,List.getElem_cons_succ,Act.put,List.setIfInBounds_toArray,List.set_cons_zero,List.set_cons_succ]
     refine wpAnyH_ready (rs:=[6]) (by kernel_rfl) (by simp) ?_
     refine AllReadyH.cons rfl (fun K hK=>?_) AllReadyH.nil
     simp only [List.getElem_toArray,List.getElem_cons_zero,List.getElem_cons_succ,Act.put,List.setIfInBounds_toArray,List.set_cons_zero,List.set_cons_succ]
     go_simp
     go_at_call 37
     (with_reducible refine (ca _ _ _ i2 nm).mono ?_)
     rintro _ W3 ⟨⟨v3,rfl,na⟩,hb1⟩
     obtain⟨ao,al,ac,ap,ak,ad,rfl, -, -⟩:=id na.shape
     replace st:=st.keep hb1;replace X6:=X6.keep hb1;replace XX:=XX.keep hb1;replace i1:=i1.keep hb1;clear hb1 x0 x1 x2 x3 x4 x5 xL
     obtain⟨x0,x1,x2,x3,x4,x5, -, -, -, -, -, -,xL⟩:=id X6
     dsimp only
     refine hK.out _ _ ⟨X6.c0,X6.c1,X6.c2,X6.c3,X6.c4,X6.c5⟩ (fun hHeld=>?_)
     clear hK K
     try simp only [List.getElem_toArray,List.getElem_cons_zero,List.getElem_cons_succ,Act.put,List.setIfInBounds_toArray,List.set_cons_zero,List.set_cons_succ]
     refine wpAnyH_ready (rs:=[7]) (by kernel_rfl) (by simp) ?_
     refine AllReadyH.cons rfl (fun K hK=>?_) AllReadyH.nil
     simp only [List.getElem_toArray,List.getElem_cons_zero,List.getElem_cons_succ,Act.put,List.setIfInBounds_toArray,List.set_cons_zero,List.set_cons_succ]
     go_simp
     go_at_call 77
     (with_reducible refine (cr _ _ na).mono ?_)
     rintro _ W4 ⟨⟨v4,rfl,nr⟩,hb1⟩
     obtain⟨ro,rl,rc,rp,rk,rd,rfl, -, -⟩:=id nr.shape
     replace st:=st.keep hb1;replace X6:=X6.keep hb1;replace XX:=XX.keep hb1;replace i1:=i1.keep hb1;clear hb1 x0 x1 x2 x3 x4 x5 xL
     obtain⟨x0,x1,x2,x3,x4,x5, -, -, -, -, -, -,xL⟩:=id X6
     dsimp only
     refine hK.out _ _ ⟨X6.c0,X6.c1,X6.c2,X6.c3,X6.c4,X6.c5⟩ (fun hHeld=>?_)
     clear hK K
     try simp only [List.getElem_toArray,List.getElem_cons_zero,List.getElem_cons_succ,Act.put,List.setIfInBounds_toArray,List.set_cons_zero,List.set_cons_succ]
     refine wpAnyH_ready (rs:=[8]) (by kernel_rfl) (by simp) ?_
     refine AllReadyH.cons rfl (fun K hK=>?_) AllReadyH.nil
     simp only [List.getElem_toArray,List.getElem_cons_zero,List.getElem_cons_succ,Act.put,List.setIfInBounds_toArray,List.set_cons_zero,List.set_cons_succ]
     go_simp
     go_at_call 37
     (with_reducible refine (cb _ _ _ i1 nr).mono ?_)
     rintro _ W5 ⟨⟨v5,rfl,nb⟩,hb1⟩
     obtain⟨bo,bl,bc,bp,bk,bd,rfl, -, -⟩:=id nb.shape
     replace st:=st.keep hb1;replace X6:=X6.keep hb1;replace XX:=XX.keep hb1;clear hb1 x0 x1 x2 x3 x4 x5 xL
     obtain⟨x0,x1,x2,x3,x4,x5, -, -, -, -, -, -,xL⟩:=id X6
     dsimp only
     refine hK.out _ _ ⟨X6.c0,X6.c1,X6.c2,X6.c3,X6.c4,X6.c5⟩ (fun hHeld=>?_)
     clear hK K
     try simp only [List.getElem_toArray,List.getElem_cons_zero,List.getElem_cons_succ,Act.put,List.setIfInBounds_toArray,List.set_cons_zero,List.set_cons_succ]
     refine wpAnyH_ready (rs:=[9]) (by kernel_rfl) (by simp) ?_
     refine AllReadyH.cons rfl (fun K hK=>?_) AllReadyH.nil
     simp only [List.getElem_toArray,List.getElem_cons_zero,List.getElem_cons_succ,Act.put,List.setIfInBounds_toArray,List.set_cons_zero,List.set_cons_succ]
     go_simp
     go_at_call 36
     (with_reducible refine (cd _ _ _ XX nb).mono ?_)
     rintro _ W6 ⟨⟨v6,rfl,nd⟩,hb1⟩
     obtain⟨zo,zl,zc,zp,zk,zd,rfl, -, -⟩:=id nd.shape
     replace st:=st.keep hb1;replace X6:=X6.keep hb1;replace XX:=XX.keep hb1;clear hb1 x0 x1 x2 x3 x4 x5 xL
     obtain⟨x0,x1,x2,x3,x4,x5,f0,f1,f2,f3,f4,f5,xL⟩:=id X6
     dsimp only
     refine hK.out _ _ ⟨X6.c0,X6.c1,X6.c2,X6.c3,X6.c4,X6.c5⟩ (fun hHeld=>?_)
     clear hK K
     try simp only [List.getElem_toArray,List.getElem_cons_zero,List.getElem_cons_succ,Act.put,List.setIfInBounds_toArray,List.set_cons_zero,List.set_cons_succ]
     refine wpAnyH_done (by kernel_rfl) ?_ _
     simp only [HeadQ,List.drop_succ_cons,List.drop_zero]
     go_wp2_with fail
     clear x0 x1 x2 x3 x4 x5 f0 f1 f2 f3 f4 f5 xL X6 XX
     replace st:=st.put nd
     clear nd
     generalize ((((((W6.setCell ⟨w.heap.size,0,none⟩ (.bool d.a.g)).setCell ⟨w.heap.size,1,none⟩ (.slice zo zl zc)).setCell ⟨w.heap.size,2,none⟩ (.int .i64 d.a.e)).setCell ⟨w.heap.size,3,none⟩ (.bool d.b.g)).setCell ⟨w.heap.size,4,none⟩ (.slice zp zk zd)).setCell ⟨w.heap.size,5,none⟩ (.int .i64 d.b.e))=V7 at *
     go_wp2_with fail
     (go_roundg (3-i-1)
      case measure=>omega
      case rel=>exact⟨i+1,by go_num,by omega,by rw [E1.out];exact st⟩)
def eqN (a b:Nm):Bool:=a.g==b.g&&(decide (a.m=b.m)&&decide (a.e=b.e))
def eqP (x y:Pr):Bool:=eqN x.a y.a&&eqN x.b y.b
theorem eqN_of {a b:Nm} (h:eqN a b=true):a=b:=by
 unfold eqN at h
 simp only [Bool.and_eq_true,beq_iff_eq,decide_eq_true_eq] at h
 obtain⟨g,m,e⟩:=a
 obtain⟨g',m',e'⟩:=b
 obtain⟨h1,h2,h3⟩:=h
 dsimp only at h1 h2 h3
 rw [h1,h2,h3]
theorem eqP_of {x y:Pr} (h:eqP x y=true):x=y:=by
 unfold eqP at h
 simp only [Bool.and_eq_true] at h
 obtain⟨a,b⟩:=x
 obtain⟨c,d⟩:=y
 have h1:=eqN_of h.1
 have h2:=eqN_of h.2
 dsimp only at h1 h2
 rw [h1,h2]
def mulB (x y:Pr):Bool:=(List.range 4).all fun i=>smB (loS (mulP3 x y) (prodX x.a y.a) i)&&(smB (hiS (mulP3 x y) (prodX x.a y.a) i)&&smB (mulP3 x y i))
theorem mulB_of {x y:Pr} (h:mulB x y=true):MulOk x y:=by
 have q:∀i,i<4→smB (loS (mulP3 x y) (prodX x.a y.a) i)=true∧smB (hiS (mulP3 x y) (prodX x.a y.a) i)=true∧smB (mulP3 x y i)=true:=fun i hi=>by
   have:=(List.all_eq_true.1 h) i (List.mem_range.2 hi)
   simpa only [Bool.and_eq_true] using this
 exact⟨fun i hi=>sm_of (q i (by omega)).1,fun i hi=>sm_of (q i (by omega)).2.1,fun i hi=>sm_of (q i (by omega)).2.2⟩
def stepB (q s p:Pr) (k:Nat):Bool:=(smP s&&smP p)&&((!(decide (p.a.m=0))&&!(decide (p.b.m=0)))&&((decide (bitsN p.a.m≤224)&&decide (bitsN p.b.m≤224))&&(smP (overX p k)&&((smB (sumX s.a (overX p k).a)&&smB (sumX s.b (overX p k).b))&&mulB p q))))
theorem stepB_of {q s p:Pr} {k:Nat} (h:stepB q s p k=true):StepOk q s p k:=by
 unfold stepB at h
 simp only [Bool.and_eq_true,Bool.not_eq_true',decide_eq_true_eq,decide_eq_false_iff_not] at h
 obtain⟨⟨h1,h2⟩,⟨h3,h4⟩,⟨h5,h6⟩,h7,⟨h8,h9⟩,ha⟩:=h
 exact⟨smP_of h1,smP_of h2,⟨h3,h4⟩,⟨h5,h6⟩,smP_of h7,⟨sm_of h8,sm_of h9⟩,mulB_of ha⟩
def arB (x:Pr) (e:Int):Bool:=smP x&&(smB (sumX x.a (minusX ⟨false,1,e⟩))&&(smB (sumX x.b ⟨false,1,e⟩)&&(smB ⟨false,1,e⟩&&smB (minusX ⟨false,1,e⟩))))
theorem arB_of {x:Pr} {e:Int} (h:arB x e=true):ArOk x e:=by
 unfold arB at h
 simp only [Bool.and_eq_true] at h
 exact⟨smP_of h.1,sm_of h.2.1,sm_of h.2.2.1,sm_of h.2.2.2.1,sm_of h.2.2.2.2⟩
def oddB (q o:Pr):Nat→Pr→Pr→List (Pr×Pr)→Bool
 | i,s,_,[]=>decide (i=52)&&(arB s (-180)&&eqP (arX s (-180)) o)
 | i,s,p,n :: l=>stepB q s p (2*i+1)&&(eqP (addX s (overX p (2*i+1))) n.1&&(eqP (mulX p q) n.2&&oddB q o (i+1) n.1 n.2 l))
theorem oddB_of {q o last:Pr} (hl:(oddN q 52).1=last) (L:List (Pr×Pr)):∀(i:Nat) (s p:Pr),oddN q i=(s,p)→oddB q o i s p L=true →
   (∀j,i≤j→j<52→StepOk q (oddN q j).1 (oddN q j).2 (2*j+1))∧ArOk last (-180)∧arX last (-180)=o:=by
 induction L with
 | nil =>
   intro i s p e h
   rw [oddB,Bool.and_eq_true,Bool.and_eq_true,decide_eq_true_eq] at h
   obtain⟨h1,h2,h3⟩:=h
   refine⟨fun j a b=>absurd b (by omega), ?_⟩
   rw [←hl,←h1,e]
   exact⟨arB_of h2,eqP_of h3⟩
 | cons n l ih =>
   intro i s p e h
   rw [oddB,Bool.and_eq_true,Bool.and_eq_true,Bool.and_eq_true] at h
   obtain⟨h1,h2,h3,h4⟩:=h
   have e2:oddN q (i+1)=(n.1,n.2):=by
     rw [oddN,e,←eqP_of h2,←eqP_of h3]
   obtain⟨a1,a2⟩:=ih (i+1) n.1 n.2 e2 h4
   refine⟨fun j hj hj2=>?_,a2⟩
   by_cases c:j=i
   · rw [c,e]
     exact stepB_of h1
   · exact a1 j (by omega) hj2
def oddsB (q o:Pr) (L:List (Pr×Pr)):Bool:=smP q&&oddB q o 0 (ofX (intX 0)) (ofX (intX 1)) L
theorem oddsB_of {q o:Pr} {L:List (Pr×Pr)} (h:oddsB q o L=true):OddOk q∧oddX q=o:=by
 unfold oddsB at h
 rw [Bool.and_eq_true] at h
 obtain⟨a,b,c⟩:=oddB_of rfl L 0 _ _ (by rw [oddN]) h.2
 exact⟨⟨smP_of h.1,fun i hi=>a i (Nat.zero_le _) hi,b⟩,c⟩
def atB (x q o m:Pr) (L:List (Pr×Pr)):Bool:=smP x&&(mulB x x&&(eqP (mulX x x) q&&(oddsB q o L&&(smP o&&(mulB x o&&eqP (mulX x o) m)))))
theorem atB_of {x q o m:Pr} {L:List (Pr×Pr)} (h:atB x q o m L=true):AtOk x∧atanhX x=m:=by
 unfold atB at h
 simp only [Bool.and_eq_true] at h
 obtain⟨h1,h2,h3,h4,h5,h6,h7⟩:=h
 obtain⟨a,b⟩:=oddsB_of h4
 have e1:=eqP_of h3
 have e2:=eqP_of h7
 unfold AtOk atanhX
 rw [e1,b]
 exact⟨⟨smP_of h1,mulB_of h2,a,smP_of h5,mulB_of h6⟩,e2⟩
def divB (x y:Pr):Bool:=(smP x&&smP y)&&((!x.a.g&&!x.b.g)&&((!(decide (x.a.m=0))&&(!(decide (x.b.m=0))&&(!(decide (y.a.m=0))&&!(decide (y.b.m=0)))))&&((decide (bitsN x.a.m≤200+bitsN y.a.m)&&(decide (bitsN x.a.m≤200+bitsN y.b.m)&&(decide (bitsN x.b.m≤200+bitsN y.a.m)&&decide (bitsN x.b.m≤200+bitsN y.b.m))))&&(smB (quotX x.a y.b true)&&smB (quotX x.b y.a false)))))
theorem divB_of {x y:Pr} (h:divB x y=true):DivOk x y:=by
 unfold divB at h
 simp only [Bool.and_eq_true,Bool.not_eq_true',decide_eq_true_eq,decide_eq_false_iff_not] at h
 obtain⟨⟨h1,h2⟩,h3,h4,h5,h6,h7⟩:=h
 exact⟨⟨smP_of h1,smP_of h2⟩,h3,h4,h5,sm_of h6,sm_of h7⟩
def addB (x y:Pr):Bool:=smP x&&(smP y&&(smB (sumX x.a y.a)&&smB (sumX x.b y.b)))
theorem addB_of {x y:Pr} (h:addB x y=true):AddOk x y:=by
 unfold addB at h
 simp only [Bool.and_eq_true] at h
 exact⟨smP_of h.1,smP_of h.2.1,sm_of h.2.2.1,sm_of h.2.2.2⟩
def sqrtB (x:Pr):Bool:=smP x&&((!(decide (x.a.m=0))&&!(decide (x.b.m=0)))&&((decide (bitsN x.a.m≤400)&&decide (bitsN x.b.m≤400))&&(smB (rootX x.a true)&&smB (rootX x.b false))))
theorem sqrtB_of {x:Pr} (h:sqrtB x=true):SqrtOk x:=by
 unfold sqrtB at h
 simp only [Bool.and_eq_true,Bool.not_eq_true',decide_eq_true_eq,decide_eq_false_iff_not] at h
 obtain⟨h1,h2,h3,h4,h5⟩:=h
 exact⟨smP_of h1,h2,h3,sm_of h4,sm_of h5⟩
def halfB (x m a r b d:Pr):Bool:=smP x&&(mulB x x&&(eqP (mulX x x) m&&(addB (ofX (intX 1)) m&&(eqP (addX (ofX (intX 1)) m) a&&(sqrtB a&&(eqP (sqrtX a) r&&(addB (ofX (intX 1)) r&&(eqP (addX (ofX (intX 1)) r) b&&(divB x b&&eqP (divX x b) d)))))))))
theorem halfB_of {x m a r b d:Pr} (h:halfB x m a r b d=true):HalfOk x∧halfX x=d:=by
 unfold halfB at h
 simp only [Bool.and_eq_true] at h
 obtain⟨h1,h2,h3,h4,h5,h6,h7,h8,h9,ha,hb⟩:=h
 have e1:=eqP_of h3
 have e2:=eqP_of h5
 have e3:=eqP_of h7
 have e4:=eqP_of h9
 have e5:=eqP_of hb
 unfold HalfOk halfX
 rw [e1,e2,e3,e4]
 exact⟨⟨smP_of h1,mulB_of h2,addB_of h4,sqrtB_of h6,addB_of h8,divB_of ha⟩,e5⟩
def arcB (x q n o p:Pr) (L:List (Pr×Pr)):Bool:=smP x&&(mulB x x&&(eqP (mulX x x) q&&(eqP (negX q) n&&(oddsB n o L&&(smP o&&(mulB x o&&(eqP (mulX x o) p&&smP p)))))))
theorem arcB_of {x q n o p:Pr} {L:List (Pr×Pr)} (h:arcB x q n o p L=true):ArcOk x∧arcX x=shiftX p 3:=by
 unfold arcB at h
 simp only [Bool.and_eq_true] at h
 obtain⟨h1,h2,h3,h4,h5,h6,h7,h8,h9⟩:=h
 obtain⟨a,b⟩:=oddsB_of h5
 have e1:=eqP_of h3
 have e2:=eqP_of h4
 have e3:=eqP_of h8
 unfold ArcOk arcX
 rw [e1,e2,b,e3]
 exact⟨⟨smP_of h1,mulB_of h2,a,smP_of h6,mulB_of h7,smP_of h9⟩,rfl⟩
theorem pi_core {one sl:Pr} (w:World)
   (c1:∀w,Calls Tryz.prog 35 #[.int .i64 1] w fun r w'=>(∃v,r=.returned v∧PI w' v one)∧Below w.heap.size w w')
   (cs:∀w vx,PI w vx one→Calls Tryz.prog 34 #[vx] w fun r w'=>(∃v,r=.returned v∧PI w' v sl)∧Below w.heap.size w w') (ss:SmP sl) :
   Calls Tryz.prog 6 #[] w fun r w'=>(∃v,r=.returned v∧PI w' v (shiftX sl 2))∧Below w.heap.size w w':=by
 have R:=hs6_new w (.bool false) (.slice none 0 0) (.int .i64 0) (.bool false) (.slice none 0 0) (.int .i64 0) 31
 have B:=Boxed.newP w #[.bool false,.slice none 0 0,.int .i64 0,.bool false,.slice none 0 0,.int .i64 0]
 have HB:Below w.heap.size w (w.alloc (.cells #[.bool false,.slice none 0 0,.int .i64 0,.bool false,.slice none 0 0,.int .i64 0] 31)):=by go_grown
 go_enter Tryz.func6,Tryz.ntmps6
 go_upto_region 1 with fail
 generalize (w.alloc (.cells #[.bool false,.slice none 0 0,.int .i64 0,.bool false,.slice none 0 0,.int .i64 0] 31))=V1 at *
 go_wp2_with (first
   | (go_at_call 35;(with_reducible refine (c1 _).mono ?_);rintro _ V2 ⟨⟨v2,rfl,n1⟩,hb1⟩;obtain⟨no,nl,nc,np,nk,nd,rfl, -, -⟩:=id n1.shape;replace R:=R.keep hb1;replace B:=B.keep hb1;replace HB:=later HB hb1;clear hb1)
   | (go_at_call 34;(with_reducible refine (cs _ _ n1).mono ?_);rintro _ V3 ⟨⟨v3,rfl,n2⟩,hb1⟩;obtain⟨uo,ul,uc,up,uk,ud,rfl, -, -⟩:=id n2.shape;replace R:=R.keep hb1;replace B:=B.keep hb1;replace HB:=later HB hb1;clear hb1)
   | (go_at_call 33;(with_reducible refine (shift_m n2 ss 2 (by omega) (by omega)).mono ?_);rintro _ V4 ⟨⟨v4,rfl,n3⟩,hb1⟩;obtain⟨zo,zl,zc,zp,zk,zd,rfl, -, -⟩:=id n3.shape;replace R:=R.keep hb1;replace B:=B.keep hb1;replace HB:=later HB hb1;clear hb1;obtain⟨r0,r1,r2,r3,r4,r5,g0,g1,g2,g3,g4,g5,rl⟩:=id R))
 refine bodyPost_ret (v:=.agg #[.bool (shiftX sl 2).a.g,.slice zo zl zc,.int .i64 (shiftX sl 2).a.e,.bool (shiftX sl 2).b.g,.slice zp zk zd,.int .i64 (shiftX sl 2).b.e]) (by simp [results,Tryz.results6,go_sem, *]) rfl ⟨⟨_,rfl, ?_⟩, ?_⟩
 · repeat' (first | (with_reducible exact n3) | (with_reducible exact B) | (with_reducible refine PI.put ?_ ?_ _ _) | (with_reducible refine Boxed.set ?_ _ _ _))
 · repeat' (first | (with_reducible exact HB) | (with_reducible refine Below.setCell ?_ ?_ _) | go_size)
end Go.Proofs.YtopfabemfbdccaaGreat
