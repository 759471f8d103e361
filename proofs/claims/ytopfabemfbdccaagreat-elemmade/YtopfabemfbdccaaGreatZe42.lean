/- The reference's numbers between two: odds, the walk. -/
import Derived.Test.YtopfabemfbdccaaGreatZe41
namespace Go.Proofs.YtopfabemfbdccaaGreat
open Go.ChangeShapes Go.WideShapes Go.ChangeAt Go.RowKit
theorem int0_m (w:World):Calls Tryz.prog 35 #[.int .i64 0] w fun r w'=>(∃v,r=.returned v∧PI w' v (ofX (intX 0)))∧Below w.heap.size w w':=intP_m 0 (by omega) w
theorem int1_m (w:World):Calls Tryz.prog 35 #[.int .i64 1] w fun r w'=>(∃v,r=.returned v∧PI w' v (ofX (intX 1)))∧Below w.heap.size w w':=intP_m 1 (by omega) w
def MulOk (x y:Pr):Prop:=(∀i,i≤3→Sm (loS (mulP3 x y) (prodX x.a y.a) i))∧(∀i,i≤3→Sm (hiS (mulP3 x y) (prodX x.a y.a) i))∧(∀i,i<3→Sm (mulP3 x y i))
theorem mulk_m {w:World} {vx vy:Value} {x y:Pr} (hx:PI w vx x) (hy:PI w vy y) (sx:SmP x) (sy:SmP y) (h:MulOk x y) :
   Calls Tryz.prog 78 #[vx,vy] w fun r w'=>(∃v,r=.returned v∧PI w' v (mulX x y))∧Below w.heap.size w w':=mul_m hx hy sx sy h.1 h.2.1 h.2.2
def oddN (q:Pr):Nat→Pr×Pr
 | 0=>(ofX (intX 0),ofX (intX 1))
 | i+1=>(addX (oddN q i).1 (overX (oddN q i).2 (2*i+1)),mulX (oddN q i).2 q)
def oddX (q:Pr):Pr:=arX (oddN q 52).1 (-180)
def StepOk (q s p:Pr) (k:Nat):Prop:=SmP s∧SmP p∧(p.a.m≠0∧p.b.m≠0)∧(bitsN p.a.m≤224∧bitsN p.b.m≤224)∧SmP (overX p k)∧(Sm (sumX s.a (overX p k).a)∧Sm (sumX s.b (overX p k).b))∧MulOk p q
def ArOk (x:Pr) (e:Int):Prop:=SmP x∧Sm (sumX x.a (minusX ⟨false,1,e⟩))∧Sm (sumX x.b ⟨false,1,e⟩)∧Sm ⟨false,1,e⟩∧Sm (minusX ⟨false,1,e⟩)
set_option maxRecDepth 4000 in
set_option maxHeartbeats 4000000 in
theorem odds_m {w:World} {vq:Value} {q:Pr} (hq:PI w vq q) (sq:SmP q) (ok:∀i,i<52→StepOk q (oddN q i).1 (oddN q i).2 (2*i+1)) (oa:ArOk (oddN q 52).1 (-180)) :
   Calls Tryz.prog 79 #[vq] w fun r w'=>(∃v,r=.returned v∧PI w' v (oddX q))∧Below w.heap.size w w':=by
 obtain⟨qo0,ql0,qc0,qo1,ql1,qc1,rfl, -, -⟩:=id hq.shape
 have OK:Hid (∀i,i<52→StepOk q (oddN q i).1 (oddN q i).2 (2*i+1)):=ok
 have OA:Hid (ArOk (oddN q 52).1 (-180)):=oa
 clear ok oa
 have Xq:=(hs6_new w (.bool q.a.g) (.slice qo0 ql0 qc0) (.int .i64 q.a.e) (.bool q.b.g) (.slice qo1 ql1 qc1) (.int .i64 q.b.e) 31).alloc (.cells #[.bool false,.slice none 0 0,.int .i64 0,.bool false,.slice none 0 0,.int .i64 0] 31)
 have R:=hs6_new (w.alloc (.cells #[.bool q.a.g,.slice qo0 ql0 qc0,.int .i64 q.a.e,.bool q.b.g,.slice qo1 ql1 qc1,.int .i64 q.b.e] 31)) (.bool false) (.slice none 0 0) (.int .i64 0) (.bool false) (.slice none 0 0) (.int .i64 0) 31
 have B:=Boxed.newP (w.alloc (.cells #[.bool q.a.g,.slice qo0 ql0 qc0,.int .i64 q.a.e,.bool q.b.g,.slice qo1 ql1 qc1,.int .i64 q.b.e] 31)) #[.bool false,.slice none 0 0,.int .i64 0,.bool false,.slice none 0 0,.int .i64 0]
 have HB:Below w.heap.size w ((w.alloc (.cells #[.bool q.a.g,.slice qo0 ql0 qc0,.int .i64 q.a.e,.bool q.b.g,.slice qo1 ql1 qc1,.int .i64 q.b.e] 31)).alloc (.cells #[.bool false,.slice none 0 0,.int .i64 0,.bool false,.slice none 0 0,.int .i64 0] 31)):=by go_grown
 replace hq:=hq.keep HB
 simp only [World.size_alloc] at R B
 go_enter Tryz.func79,Tryz.ntmps79
 go_upto_region 1 with fail
 have QP:HsP ((w.alloc (.cells #[.bool q.a.g,.slice qo0 ql0 qc0,.int .i64 q.a.e,.bool q.b.g,.slice qo1 ql1 qc1,.int .i64 q.b.e] 31)).alloc (.cells #[.bool false,.slice none 0 0,.int .i64 0,.bool false,.slice none 0 0,.int .i64 0] 31)) w.heap.size q:=⟨_,_,_,_,_,_,Xq,hq⟩
 clear Xq hq
 generalize ((w.alloc (.cells #[.bool q.a.g,.slice qo0 ql0 qc0,.int .i64 q.a.e,.bool q.b.g,.slice qo1 ql1 qc1,.int .i64 q.b.e] 31)).alloc (.cells #[.bool false,.slice none 0 0,.int .i64 0,.bool false,.slice none 0 0,.int .i64 0] 31))=V1 at *
 go_upto_region 2 with (go_at_call 35;(with_reducible refine (int0_m _).mono ?_);rintro _ V2 ⟨⟨v2,rfl,n2⟩,hb1⟩;generalize hz0:ofX (intX 0)=z0 at n2;obtain⟨ao,al,ac,bo,bk,bc,rfl, -, -⟩:=id n2.shape;replace R:=R.keep hb1;replace B:=B.keep hb1;replace QP:=QP.keep hb1;replace HB:=later HB hb1;clear hb1)
 have hb1:Below V2.heap.size V2 (V2.alloc (.cells #[.bool z0.a.g,.slice ao al ac,.int .i64 z0.a.e,.bool z0.b.g,.slice bo bk bc,.int .i64 z0.b.e] 31)):=by go_grown
 have hrs:w.heap.size+1<V2.heap.size:=R.lt
 have SP:HsP (V2.alloc (.cells #[.bool z0.a.g,.slice ao al ac,.int .i64 z0.a.e,.bool z0.b.g,.slice bo bk bc,.int .i64 z0.b.e] 31)) V2.heap.size z0:=⟨_,_,_,_,_,_,hs6_new V2 (.bool z0.a.g) (.slice ao al ac) (.int .i64 z0.a.e) (.bool z0.b.g) (.slice bo bk bc) (.int .i64 z0.b.e) 31,n2.keep hb1⟩
 have BS:=Boxed.newP V2 #[.bool z0.a.g,.slice ao al ac,.int .i64 z0.a.e,.bool z0.b.g,.slice bo bk bc,.int .i64 z0.b.e]
 replace R:=R.keep hb1
 replace B:=B.keep hb1
 replace QP:=QP.keep hb1
 replace HB:=later HB hb1
 have hsz:V2.heap.size<(V2.alloc (.cells #[.bool z0.a.g,.slice ao al ac,.int .i64 z0.a.e,.bool z0.b.g,.slice bo bk bc,.int .i64 z0.b.e] 31)).heap.size:=by go_size
 clear hb1 n2
 generalize V2.alloc (.cells #[.bool z0.a.g,.slice ao al ac,.int .i64 z0.a.e,.bool z0.b.g,.slice bo bk bc,.int .i64 z0.b.e] 31)=V3 at *
 generalize V2.heap.size=sb at *
 go_upto_region 3 with (go_at_call 35;(with_reducible refine (int1_m _).mono ?_);rintro _ V4 ⟨⟨v4,rfl,n4⟩,hb1⟩;generalize hz1:ofX (intX 1)=z1 at n4;obtain⟨co,cl,cc,eo,ek,ec,rfl, -, -⟩:=id n4.shape;replace hsz:=Nat.lt_of_lt_of_le hsz hb1.size;replace R:=R.keep hb1;replace B:=B.keep hb1;replace QP:=QP.keep hb1;replace SP:=SP.keep hb1;replace BS:=BS.keep hb1;replace HB:=later HB hb1;clear hb1)
 have hb1:Below V4.heap.size V4 (V4.alloc (.cells #[.bool z1.a.g,.slice co cl cc,.int .i64 z1.a.e,.bool z1.b.g,.slice eo ek ec,.int .i64 z1.b.e] 31)):=by go_grown
 have st:OSt w (V4.alloc (.cells #[.bool z1.a.g,.slice co cl cc,.int .i64 z1.a.e,.bool z1.b.g,.slice eo ek ec,.int .i64 z1.b.e] 31)) w.heap.size (w.heap.size+1) sb V4.heap.size q z0 z1 :=
   ⟨later HB hb1,QP.keep hb1,SP.keep hb1,⟨_,_,_,_,_,_,hs6_new V4 (.bool z1.a.g) (.slice co cl cc) (.int .i64 z1.a.e) (.bool z1.b.g) (.slice eo ek ec) (.int .i64 z1.b.e) 31,n4.keep hb1⟩,BS.keep hb1,Boxed.newP V4 #[.bool z1.a.g,.slice co cl cc,.int .i64 z1.a.e,.bool z1.b.g,.slice eo ek ec,.int .i64 z1.b.e],B.keep hb1,R.keep hb1,Nat.le_refl _,by omega,hrs,hsz⟩
 clear hb1 n4 R B QP SP BS HB hrs hsz
 generalize V4.alloc (.cells #[.bool z1.a.g,.slice co cl cc,.int .i64 z1.a.e,.bool z1.b.g,.slice eo ek ec,.int .i64 z1.b.e] 31)=V5 at *
 generalize V4.heap.size=pb at *
 have E0:Hid (oddN q 0=(z0,z1)):=by rw [←hz0,←hz1];rfl
 go_wp2_with fail
 go_loopg [5] 52 (fun G s5 wx=>∃i:Nat,s5=.int .i64 (i:Int)∧i+G=52∧OSt w wx w.heap.size (w.heap.size+1) sb pb q (oddN q i).1 (oddN q i).2)
 case atStart=>exact⟨0,rfl,by omega,by rw [E0.out];exact st⟩
 case round =>
   clear st E0
   obtain⟨i,rfl,hik,st⟩:=hrel
   by_cases ci:i=52
   · subst ci
     obtain⟨a1,a2,a3,a4,a5⟩:=OA.out
     have HM:Hid (oddX q=arX (oddN q 52).1 (-180)):=rfl
     clear OK OA
     generalize (oddN q 52).1=s at *
     obtain⟨so,sl,sc,uo,uk,uc,S6,SI⟩:=st.S
     have R:=st.R
     have B:=st.B
     have HB:=st.hb
     clear st
     obtain⟨s0,s1,s2,s3,s4,s5, -, -, -, -, -, -,sL⟩:=id S6
     go_wp2_with (go_at_call 141;(with_reducible refine (around_m SI a1 (-180) a2 a3 a4 a5).mono ?_);rintro _ Vc ⟨⟨vc,rfl,pc⟩,hb1⟩;obtain⟨po0,pl0,pc0,po1,pl1,pc1,rfl, -, -⟩:=pc.shape;replace R:=R.keep hb1;replace B:=B.keep hb1;replace HB:=later HB hb1;clear hb1;obtain⟨r0,r1,r2,r3,r4,r5,g0,g1,g2,g3,g4,g5,rl⟩:=id R)
     refine bodyPost_ret (v:=.agg #[.bool (arX s (-180)).a.g,.slice po0 pl0 pc0,.int .i64 (arX s (-180)).a.e,.bool (arX s (-180)).b.g,.slice po1 pl1 pc1,.int .i64 (arX s (-180)).b.e]) (by simp [results,Tryz.results79,go_sem, *]) rfl ⟨⟨_,rfl, ?_⟩, ?_⟩
     · rw [HM.out]
       repeat' (first | (with_reducible exact pc) | (with_reducible exact B) | (with_reducible refine PI.put ?_ ?_ _ _) | (with_reducible refine Boxed.set ?_ _ _ _))
     · repeat' (first | (with_reducible exact HB) | (with_reducible refine Below.setCell ?_ ?_ _) | go_size)
   · have hi3:i<52:=by omega
     obtain⟨k1,k2,⟨k3,k4⟩,⟨k5,k6⟩,k7,⟨k8,k9⟩,k10⟩:=OK.out i hi3
     have E1:Hid (oddN q (i+1)=(addX (oddN q i).1 (overX (oddN q i).2 (2*i+1)),mulX (oddN q i).2 q)):=rfl
     clear OK OA
     have hlt:(i:Int)<52:=by omega
     generalize (oddN q i).1=s at *
     generalize (oddN q i).2=p at *
     have hk:IntKind.i64.wrap (IntKind.i64.wrap (2*(i:Int))+1)=((2*i+1:Nat):Int):=by first | go_num | (rw [IntKind.wrap_i64,IntKind.wrap_i64];omega)
     have co:∀W v,PI W v p→Calls Tryz.prog 140 #[v,.int .i64 (IntKind.i64.wrap (IntKind.i64.wrap (2*(i:Int))+1))] W fun r w'=>(∃v,r=.returned v∧PI w' v (overX p (2*i+1)))∧Below W.heap.size W w':=fun W v hv=>by
       have q:=over_m hv k2 k3 k4 k5 k6 (2*i+1) (by omega) (by omega)
       rw [←hk] at q
       exact q
     clear hk
     generalize overX p (2*i+1)=o at *
     go_upto_region 6 with fail
     have HD:Below wr.heap.size wr wr.drew:=(Below.refl _ _).drew
     replace st:=st.keep HD
     clear HD
     obtain⟨so,sl,sc,uo,uk,uc,S6,SI⟩:=id st.S
     obtain⟨po,pl,pc,mo,mk,mc,P6,PP⟩:=id st.P
     have nep:pb≠sb:=by have:=st.sp;omega
     obtain⟨s0,s1,s2,s3,s4,s5, -, -, -, -, -, -,sL⟩:=id S6;obtain⟨p0,p1,p2,p3,p4,p5, -, -, -, -, -, -,pL⟩:=id P6
     go_region_with (first
         | (go_at_call 140;(with_reducible refine (co _ _ PP).mono ?_);rintro _ W1 ⟨⟨v1,rfl,n1⟩,hb1⟩;obtain⟨no,nl,nc,ro,rk,rc,rfl, -, -⟩:=id n1.shape;replace st:=st.keep hb1;replace S6:=S6.keep hb1;replace SI:=SI.keep hb1;replace P6:=P6.keep hb1;replace PP:=PP.keep hb1;clear hb1 s0 s1 s2 s3 s4 s5 sL p0 p1 p2 p3 p4 p5 pL;obtain⟨s0,s1,s2,s3,s4,s5, -, -, -, -, -, -,sL⟩:=id S6;obtain⟨p0,p1,p2,p3,p4,p5, -, -, -, -, -, -,pL⟩:=id P6)
         | (go_at_call 37;(with_reducible refine (add_m SI n1 k1 k7 k8 k9).mono ?_);rintro _ W2 ⟨⟨v2,rfl,n2⟩,hb1⟩;obtain⟨ao,al,ac,bo,bk,bc,rfl, -, -⟩:=id n2.shape;replace st:=st.keep hb1;replace S6:=S6.keep hb1;replace P6:=P6.keep hb1;clear hb1 s0 s1 s2 s3 s4 s5 sL p0 p1 p2 p3 p4 p5 pL SI PP n1;obtain⟨s0,s1,s2,s3,s4,s5,f0,f1,f2,f3,f4,f5,sL⟩:=id S6))
     all_goals
       clear s0 s1 s2 s3 s4 s5 f0 f1 f2 f3 f4 f5 sL S6 P6 co
       replace st:=st.putS n2
       clear n2
       generalize ((((((W2.setCell ⟨sb,0,none⟩ (.bool (addX s o).a.g)).setCell ⟨sb,1,none⟩ (.slice ao al ac)).setCell ⟨sb,2,none⟩ (.int .i64 (addX s o).a.e)).setCell ⟨sb,3,none⟩ (.bool (addX s o).b.g)).setCell ⟨sb,4,none⟩ (.slice bo bk bc)).setCell ⟨sb,5,none⟩ (.int .i64 (addX s o).b.e))=V7 at *
       obtain⟨po,pl,pc,mo,mk,mc,P6,PP⟩:=id st.P
       obtain⟨jo,jl,jc,lo,lk,lc,Q6,QQ⟩:=id st.Q
       obtain⟨p0,p1,p2,p3,p4,p5, -, -, -, -, -, -,pL⟩:=id P6
       obtain⟨y0,y1,y2,y3,y4,y5, -, -, -, -, -, -,yL⟩:=id Q6
       go_upto_region 5 with (go_at_call 78;(with_reducible refine (mulk_m PP QQ k2 sq k10).mono ?_);rintro _ W3 ⟨⟨v3,rfl,n3⟩,hb1⟩;obtain⟨co,cl,cc,eo,ek,ec,rfl, -, -⟩:=id n3.shape;replace st:=st.keep hb1;clear hb1 p0 p1 p2 p3 p4 p5 pL y0 y1 y2 y3 y4 y5 yL PP QQ P6 Q6;obtain⟨po,pl,pc,mo,mk,mc,P6, -⟩:=id st.P;obtain⟨p0,p1,p2,p3,p4,p5,f0,f1,f2,f3,f4,f5,pL⟩:=id P6)
       clear p0 p1 p2 p3 p4 p5 f0 f1 f2 f3 f4 f5 pL P6
       replace st:=st.putP n3
       clear n3
       generalize ((((((W3.setCell ⟨pb,0,none⟩ (.bool (mulX p q).a.g)).setCell ⟨pb,1,none⟩ (.slice co cl cc)).setCell ⟨pb,2,none⟩ (.int .i64 (mulX p q).a.e)).setCell ⟨pb,3,none⟩ (.bool (mulX p q).b.g)).setCell ⟨pb,4,none⟩ (.slice eo ek ec)).setCell ⟨pb,5,none⟩ (.int .i64 (mulX p q).b.e))=V9 at *
       go_wp2_with fail
       (go_roundg (52-i-1)
        case measure=>omega
        case rel=>exact⟨i+1,by go_num,by omega,by rw [E1.out];exact st⟩)
end Go.Proofs.YtopfabemfbdccaaGreat
