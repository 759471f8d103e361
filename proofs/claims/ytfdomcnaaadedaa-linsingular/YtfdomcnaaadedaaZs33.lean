/- nearlyInverse ends, with rows of floats or none. The inverse of what was scaled, turned back. -/
import Derived.Test.YtfdomcnaaadedaaZs32
import Derived.Test.YtfdomcnaaadedaaZs29
import Derived.Test.YtfdomcnaaadedaaZs24
namespace Go.Proofs.Ytfdomcnaaadedaa
open Go.ChangeShapes Go.WideShapes Go.ChangeAt Go.RowKit
theorem Tab.other {B:Nat} {w:World} {g n m:Nat} {h:Nat→Nat} (T:Tab B w g n m h) {c:Nat} (k:Nat) (v:Value) (hc:c≠g) (hne:∀r,r<n→h r≠c):Tab B (w.setCell ⟨c,k,none⟩ v) g n m h :=
 ⟨T.out.far hc _,fun r hr=>(T.row r hr).other (hne r hr) _ _,T.ne,T.ge⟩
set_option maxRecDepth 4000 in
set_option maxHeartbeats 8000000 in
theorem nearly_w (gb n b:Nat) (hb:Nat→Nat) (hn:n≤24) (w:World) (T:Tab b w gb n n hb) :
   Calls Try.prog 14 #[.slice (some ⟨gb,0,none⟩) n n] w fun e w'=>(e=.returned (.slice none 0 0)∨∃c f,e=.returned (.slice (some ⟨c,0,none⟩) n n)∧Pick w' c n f)∧Below w.heap.size w w':=by
 have cb:=beside_w gb n b hb hn w T
 clear T
 go_enter Try.func14,Try.ntmps14
 go_wp2_with (first
   | (go_at_call 37;refine cb.mono ?_;rintro _ w1 ⟨g,h0,rfl,G0,hg,HB⟩)
   | (at_make;refine wpList_makeRF (by rfl) _ _ (by rfl) n (by rfl) (by rfl) (by omega) ?_;intro w3 hO hb3 hS3))
 have hcg:g≠w1.heap.size:=by have:=G0.out.1;omega
 have hcw:w.heap.size≤w1.heap.size:=HB.size
 have HG:Hid (Tab w.heap.size w3 g n (n+n) h0):=G0.keep hb3
 have HP:Hid (Pick w3 w1.heap.size n (fun _=>.slice none 0 0)):=⟨hO,fun _ _=>Or.inl rfl⟩
 have HB3:=later HB hb3
 clear cb G0 hO hb3 HB hS3
 generalize w1.heap.size=c at *
 go_loopg [18] n (fun G s18 wx=>Below w.heap.size w wx∧∃(k:Nat) (h:Nat→Nat) (f:Nat→Value),k+G=n∧s18=.int .i64 (k:Int)∧Hid (Tab w.heap.size wx g n (n+n) h)∧Hid (Pick wx c n f))
 case atStart=>exact⟨HB3,0,h0,_,by omega,rfl,HG,HP⟩
 case round =>
   clear HB3 HG HP
   obtain⟨HB,k,h,f,hk,rfl,HG,HP⟩:=hrel
   by_cases ck:k=n
   · subst ck
     go_wp2_with fail
     go_ret
     exact⟨Or.inr ⟨c,f,rfl,HP⟩,HB⟩
   · have hlt:(k:Int)<(n:Int):=by omega
     have hle:(k:Int)≤(n:Int):=by omega
     have cg:=fun C=>greatest_w g k (n-k) (n+n) n C (fun r=>h (k+r)) (by omega) (by omega) (by omega) (by omega) wr (fun r hr=>⟨(HG.out.out.2 (k+r) (by omega)).1,HG.out.row (k+r) (by omega)⟩)
     go_upto_region 8 with (go_at_call 38;refine (cg _).mono ?_;rintro _ _ ⟨⟨p,q,rfl,hp,hq,hq2⟩,rfl⟩)
     clear cg
     rcases Int.lt_or_le q 0 with h0 | h0
     · go_wp2_with fail
       go_ret
       exact⟨Or.inl rfl,HB⟩
     · obtain⟨q,rfl⟩:∃z:Nat,q=(z:Int):=⟨q.toNat,by omega⟩
       clear hq
       have hqn:q<n:=by omega
       have hltp:(k:Int)+(p:Int)<(n:Int):=by omega
       have hp0:(0:Int)≤(k:Int)+(p:Int):=by omega
       have htp:((k:Int)+(p:Int)).toNat=k+p:=by omega
       obtain⟨o0,o1⟩:=HG.out.out.2 k (by omega)
       obtain⟨r0,r1⟩:=HG.out.out.2 (k+p) (by omega)
       have lg:=HG.out.out.1
       have HF:Hid (∀d,Flo wr d (n+n)→d≠g):=fun d F=>HG.out.out.noFlo (by omega) (fun x=>by simp) F (by omega)
       have HS:Hid (Tab w.heap.size (((wr.setCell ⟨g,k,none⟩ (.slice (some ⟨h (k+p),0,none⟩) (n+n) (n+n))).setCell ⟨g,k+p,none⟩ (.slice (some ⟨h k,0,none⟩) (n+n) (n+n))).drew) g n (n+n) (fun r=>if r=k+p then h k else if r=k then h (k+p) else h r)) :=
         (HG.out.swap k (k+p) (by omega) (by omega)).keep (Below.refl _ _).drew
       have HQ:Hid (Pick (((wr.setCell ⟨g,k,none⟩ (.slice (some ⟨h (k+p),0,none⟩) (n+n) (n+n))).setCell ⟨g,k+p,none⟩ (.slice (some ⟨h k,0,none⟩) (n+n) (n+n))).drew) c n f) :=
         ((HP.out.other _ _ hcg HF.out).other _ _ hcg (fun d F e=>by
           subst e
           exact (HG.out.out.set k (.slice (some ⟨h (k+p),0,none⟩) (n+n) (n+n)) (by omega)).noFlo (by omega) (fun x=>by split <;> simp) F (by omega) rfl)).keep (Below.refl _ _).drew
       have HB2:Below w.heap.size w (((wr.setCell ⟨g,k,none⟩ (.slice (some ⟨h (k+p),0,none⟩) (n+n) (n+n))).setCell ⟨g,k+p,none⟩ (.slice (some ⟨h k,0,none⟩) (n+n) (n+n))).drew):=((HB.setCell hg _).setCell hg _).drew
       obtain⟨u,s0⟩:∃u,(wr.setCell ⟨g,k,none⟩ (.slice (some ⟨h (k+p),0,none⟩) (n+n) (n+n))).cell? ⟨g,k+p,none⟩=some u:=⟨_,((HG.out.out.set k _ (by omega)).2 (k+p) (by omega)).1⟩
       go_upto_region 10 with fail
       go_region
       generalize ((wr.setCell ⟨g,k,none⟩ (.slice (some ⟨h (k+p),0,none⟩) (n+n) (n+n))).setCell ⟨g,k+p,none⟩ (.slice (some ⟨h k,0,none⟩) (n+n) (n+n))).drew=W2 at HS HQ HB2 ⊢
       generalize (fun r=>if r=k+p then h k else if r=k then h (k+p) else h r)=h2 at HS
       clear o0 o1 r0 r1 s0 HF lg HG HP HB hltp hp0 htp
       obtain⟨o0, -⟩:=HS.out.out.2 k (by omega)
       have lg:=HS.out.out.1
       have lx2:=(HS.out.row k (by omega)).lt
       obtain⟨x,x0, -,lx⟩:=(HS.out.row k (by omega)).at q (by omega)
       have ko:=fun m:Behind W2=>m.cell o0 lg
       have kx:=fun m:Behind W2=>m.cell x0 lx2
       have hltq:(q:Int)<(n:Int)+(n:Int):=by omega
       go_upto_region 11 with fail
       refine tail_behind 11 (by kernel_rfl) (by kernel_rfl) ?_
       simp only [List.take_succ_cons,List.take_zero,List.drop_succ_cons,List.drop_zero]
       repeat (go_big_quiet_step (fail))
       refine wpQuiet_nil ?_
       rintro _ ⟨m',rfl⟩
       obtain⟨W,hb1⟩:=m'
       dsimp only
       clear ko kx o0 x0 lg lx2
       replace HS:Hid (Tab w.heap.size W g n (n+n) h2):=HS.out.keep hb1
       replace HQ:Hid (Pick W c n f):=HQ.out.keep hb1
       replace HB2:=later HB2 hb1
       have cd:=divide_w (h2 k) (n+n) (n+n) x w.heap.size (by omega) (HS.out.ge k (by omega)) W (HS.out.row k (by omega))
       go_wp2_with (go_at_call 39;refine cd.mono ?_;rintro _ w4 ⟨rfl,hW4⟩)
       have n4:=HQ.out.out.noFlo (by omega) (fun x=>(HQ.out.half 0 (by omega)).not x) (HS.out.row k (by omega)) (by omega)
       replace HQ:Hid (Pick w4 c n f):=HQ.out.wrt hW4 (fun e=>n4 e.symm)
       replace HS:Hid (Tab w.heap.size w4 g n (n+n) h2):=HS.out.wrt hW4 (fun e=>HS.out.ne k (by omega) e.symm)
       replace HB2:=HB2.trans hW4.below
       clear cd hb1 hW4 n4
       go_loopg [63] n (fun G s63 wx=>Below w.heap.size w wx∧∃i:Nat,i+G=n∧s63=.int .i64 (i:Int)∧Hid (Tab w.heap.size wx g n (n+n) h2)∧Hid (Pick wx c n f))
       case atStart=>exact⟨HB2,0,by omega,rfl,HS,HQ⟩
       case round =>
         clear HB2 HS HQ
         obtain⟨HB,i,hi,rfl,HS,HQ⟩:=hrel
         by_cases ci:i=n
         · obtain⟨o0, -⟩:=HS.out.out.2 k (by omega)
           obtain⟨c0,c1⟩:=HQ.out.out.2 q hqn
           have hnn:¬(i:Int)<(n:Int):=by omega
           have hle2:(n:Int)≤(n:Int)+(n:Int):=by omega
           clear ci
           go_wp2_with fail
           have nf:∀r,r<n→h2 r≠c:=fun r hr=>HQ.out.out.noFlo (by omega) (fun x=>(HQ.out.half 0 (by omega)).not x) (HS.out.row r hr) (by omega)
           go_roundg (n-k-1)
           case measure=>omega
           case rel=>exact⟨HB.setCell hcw _,k+1,h2,_,by omega,by go_num,HS.out.other _ _ (fun e=>hcg e.symm) nf,HQ.out.set q _ hqn (Or.inr ⟨h2 k,rfl,HS.out.row k (by omega)⟩)⟩
         · have hlti:(i:Int)<(n:Int):=by omega
           obtain⟨o0, -⟩:=HS.out.out.2 k (by omega)
           obtain⟨i0, -⟩:=HS.out.out.2 i (by omega)
           have lg:=HS.out.out.1
           by_cases cik:i=k
           · have heq:(i:Int)=(k:Int):=by omega
             go_wp2_with fail
             go_roundg (n-i-1)
             case measure=>omega
             case rel=>exact⟨HB,i+1,by omega,by go_num,HS,HQ⟩
           · have hne:¬(i:Int)=(k:Int):=by omega
             have ly2:=(HS.out.row i (by omega)).lt
             obtain⟨y,y0, -,ly⟩:=(HS.out.row i (by omega)).at q (by omega)
             go_upto_region 16 with fail
             have ko:=fun m:Behind wr=>m.cell o0 lg
             have ky:=fun m:Behind wr=>m.cell y0 ly2
             refine tail_behind 9 (by kernel_rfl) (by kernel_rfl) ?_
             simp only [List.take_succ_cons,List.take_zero,List.drop_succ_cons,List.drop_zero]
             repeat (go_big_quiet_step (fail))
             refine wpQuiet_nil ?_
             rintro _ ⟨m',rfl⟩
             obtain⟨W,hb1⟩:=m'
             dsimp only
             clear ko ky o0 i0 y0 lg ly2
             replace HS:Hid (Tab w.heap.size W g n (n+n) h2):=HS.out.keep hb1
             replace HQ:Hid (Pick W c n f):=HQ.out.keep hb1
             replace HB:=later HB hb1
             have ct:=takeOff_w (h2 i) (h2 k) (n+n) (n+n) (n+n) y w.heap.size (by omega) (HS.out.ge i (by omega)) W (HS.out.row i (by omega)) (HS.out.row k (by omega))
             go_wp2_with (go_at_call 40;refine ct.mono ?_;rintro _ w5 ⟨rfl,hW5⟩)
             have n5:=HQ.out.out.noFlo (by omega) (fun x=>(HQ.out.half 0 (by omega)).not x) (HS.out.row i (by omega)) (by omega)
             go_roundg (n-i-1)
             case measure=>omega
             case rel=>exact⟨HB.trans hW5.below,i+1,by omega,by go_num,HS.out.wrt hW5 (fun e=>HS.out.ne i (by omega) e.symm),HQ.out.wrt hW5 (fun e=>n5 e.symm)⟩
theorem Has2.block {w w2:World} {b:Nat} {x y:Value} (h:Has2 w b x y) (e:w2.heap[b]?=w.heap[b]?) (hs:w.heap.size≤w2.heap.size):Has2 w2 b x y :=
 ⟨(World.cell?_of_block e).trans h.1,(World.cell?_of_block e).trans h.2.1,(World.frozen?_of_block e).trans h.2.2.1,(World.frozen?_of_block e).trans h.2.2.2.1,Nat.lt_of_lt_of_le h.2.2.2.2 hs⟩
def Pws (w:World) (A:Option Addr) (n:Nat) (P:Nat→Int):Prop:=∀j,j<n→∃b o,A=some ⟨b,o,none⟩∧b<w.heap.size∧w.cell? ⟨b,o+j,none⟩=some (.int .i64 (P j))∧-10000≤P j∧P j≤10000
theorem Pws.keep {w w2:World} {A:Option Addr} {n:Nat} {P:Nat→Int} (h:Pws w A n P) (hb:Below w.heap.size w w2):Pws w2 A n P:=fun j hj=>by
 obtain⟨b,o,e,l,c,r⟩:=h j hj
 exact⟨b,o,e,Nat.lt_of_lt_of_le l hb.size,keepsC hb c l,r⟩
set_option maxHeartbeats 4000000 in
theorem back_w (A SR SC:Option Addr) (N C kr kc:Nat) (RA:Nat→Option Addr) (RL RC:Nat→Nat) (X:Nat→Nat→Nat×Nat) (P Q:Nat→Int) (hN:N≤24) (hN0:0<N) (hR:∀r,r<N→RL r=N) (w:World) (V:Rws w A N RA RL RC X) (U:Pws w SR N P) (T:Pws w SC N Q) :
   Calls Try.prog 23 #[.agg #[.slice SR N kr,.slice SC N kc],.slice A N C] w fun e w'=>∃g h F,e=.returned (.slice (some ⟨g,0,none⟩) N N)∧Grd w' g N N h F∧(∀r,r<N→∀c,c<N→(F r c).1<18446744073709551616∧(F r c).2<18446744073709551616)∧Below w.heap.size w w':=by
 have HR:Hid (∀r,r<N→RL r=N):=hR
 have h4:(0:Int)<(N:Int):=by omega
 obtain⟨b,o,hA,hb, -, -, -⟩:=V 0 hN0
 obtain⟨sb,so,hSR, -⟩:=U 0 hN0
 obtain⟨tb,t0,hSC, -⟩:=T 0 hN0
 subst hA
 subst hSR
 subst hSC
 clear hR
 have cg:=fun w=>grid_w N N hN hN w
 go_enter Try.func23,Try.ntmps23
 go_wp2_with (go_at_call 35;refine (cg _).mono ?_;rintro _ w1 ⟨g,h,rfl,G0,hg,hh,hb0⟩)
 have HX:Hid (Has2 w1 w.heap.size (.slice (some ⟨sb,so,none⟩) N kr) (.slice (some ⟨tb,t0,none⟩) N kc)):=Has2.keep ⟨by go_simp,by go_simp,by go_simp,by go_simp,by go_size⟩ hb0
 have HB:Below w.heap.size w w1:=later (by go_grown) hb0
 have HH:Hid (∀r,r<N→w.heap.size<h r):=fun r hr=>by have:=hh r hr;simp only [World.size_alloc] at this;omega
 clear hb0 hg hh cg
 go_loopg [15] N (fun G s15 wx=>Below w.heap.size w wx∧∃(i:Nat) (F:Nat→Nat→Nat×Nat),i+G=N∧s15=.int .i64 (i:Int)∧Grd wx g N N h F∧Hid (Has2 wx w.heap.size (.slice (some ⟨sb,so,none⟩) N kr) (.slice (some ⟨tb,t0,none⟩) N kc))∧Hid (∀r,r<N→∀c,c<N→(F r c).1<18446744073709551616∧(F r c).2<18446744073709551616))
 case atStart=>exact⟨HB,0,_,by omega,rfl,G0,HX,fun r _ c _=>⟨by simp,by simp⟩⟩
 case round =>
   clear HB G0 HX
   obtain⟨HB,i,F,hi,rfl,G0,HX,HF⟩:=hrel
   by_cases ci:i=N
   · subst ci
     go_wp2_with fail
     go_ret
     exact⟨g,h,F,rfl,G0,HF,HB⟩
   · have hlti:(i:Int)<(N:Int):=by omega
     obtain⟨b1,o1,hA1,lb1,v0, -,I⟩:=(V.keep HB) i (by omega)
     rw [HR.out i (by omega)] at v0 I
     simp only [Option.some.injEq,Addr.mk.injEq,and_true] at hA1
     obtain⟨rfl,rfl⟩:=hA1
     clear I
     go_wp2_with fail
     clear v0
     go_loopg [23] N (fun G s23 wy=>Below w.heap.size w wy∧∃(j:Nat) (F:Nat→Nat→Nat×Nat),j+G=N∧s23=.int .i64 (j:Int)∧Grd wy g N N h F∧Hid (Has2 wy w.heap.size (.slice (some ⟨sb,so,none⟩) N kr) (.slice (some ⟨tb,t0,none⟩) N kc))∧Hid (∀r,r<N→∀c,c<N→(F r c).1<18446744073709551616∧(F r c).2<18446744073709551616))
     case atStart=>exact⟨HB,0,F,by omega,rfl,G0,HX,HF⟩
     case round =>
       clear HB G0 HX HF F
       obtain⟨HB,j,F,hj,rfl,G0,HX,HF⟩:=hrel
       by_cases cj:j=N
       · subst cj
         go_wp2_with fail
         go_roundg (j-i-1)
         case measure=>omega
         case rel=>exact⟨HB,i+1,F,by omega,by go_num,G0,HX,HF⟩
       · have hltj:(j:Int)<(N:Int):=by omega
         obtain⟨b1,o1,hA1,lb1,v0, -,I⟩:=(V.keep HB) i (by omega)
         rw [HR.out i (by omega)] at v0 I
         simp only [Option.some.injEq,Addr.mk.injEq,and_true] at hA1
         obtain⟨rfl,rfl⟩:=hA1
         obtain⟨b3,o3,hA3,lb3,v1,v2,l1,l2⟩:=I j (by omega)
         rw [hA3] at v0
         obtain⟨b4,o4,hA4,lb4,u0,p1,p2⟩:=(U.keep HB) j (by omega)
         simp only [Option.some.injEq,Addr.mk.injEq,and_true] at hA4
         obtain⟨rfl,rfl⟩:=hA4
         obtain⟨b5,o5,hA5,lb5,y0,q1,q2⟩:=(T.keep HB) i (by omega)
         simp only [Option.some.injEq,Addr.mk.injEq,and_true] at hA5
         obtain⟨rfl,rfl⟩:=hA5
         obtain⟨x0,x1, -, -,x4⟩:=HX.out
         have cc:=fun w=>tp_w (X i j).1 (X i j).2 (-(Q i)-P j) l1 l2 (by omega) (by omega) w
         have tl:(tpP ((X i j).1,(X i j).2) (-(Q i)-P j)).1<18446744073709551616∧(tpP ((X i j).1,(X i j).2) (-(Q i)-P j)).2<18446744073709551616:=⟨rpF_lt l1 _ _,rpF_lt l2 _ _⟩
         obtain⟨g0, -⟩:=G0.out.2 i (by omega)
         have gl:=G0.out.1
         clear I hA3
         generalize tpP ((X i j).1,(X i j).2) (-(Q i)-P j)=z at *
         generalize X i j=x at *
         generalize P j=pj at *
         generalize Q i=qi at *
         go_upto_region 8 with fail
         have k0:=fun n:Behind wr=>n.cell g0 gl
         have k1:=fun n:Behind wr=>n.cell v0 lb1
         have k2:=fun n:Behind wr=>n.cell v1 lb3
         have k3:=fun n:Behind wr=>n.cell v2 lb3
         have k4:=fun n:Behind wr=>n.cell u0 lb4
         have k5:=fun n:Behind wr=>n.cell y0 lb5
         have k6:=fun n:Behind wr=>n.cell x0 x4
         have k7:=fun n:Behind wr=>n.cell x1 x4
         refine tail_behind 25 (by kernel_rfl) (by kernel_rfl) ?_
         simp only [List.take_succ_cons,List.take_zero,List.drop_succ_cons,List.drop_zero]
         repeat (go_big_quiet_step (first
           | (go_at_call 34;with_reducible refine Behind.call (cc _))))
         refine wpQuiet_nil ?_
         rintro _ ⟨q,rfl⟩
         obtain⟨W,hb1⟩:=q
         dsimp only
         clear k0 k1 k2 k3 k4 k5 k6 k7 g0 gl v0 v1 v2 u0 y0 x0 x1 cc
         replace G0:=G0.keep hb1
         replace HB:=later HB hb1
         replace HX:Hid (Has2 W w.heap.size (.slice (some ⟨sb,so,none⟩) N kr) (.slice (some ⟨tb,t0,none⟩) N kc)):=HX.out.keep hb1
         clear hb1
         obtain⟨i0,i1,f0,f1⟩:=id ((G0.row i (by omega)).2 j (by omega))
         go_wp2_with fail
         go_roundg (N-j-1)
         case measure=>omega
         case rel =>
           have hhi:=HH.out i (by omega)
           refine⟨?_,j+1,_,by omega,by go_num,G0.set i j _ _ (by omega) (by omega),HX.out.block ?_ (by go_size),fun r hr c hc=>?_⟩
           · repeat' (first | (with_reducible exact HB) | (with_reducible refine Below.setCell ?_ ?_ _) | go_size | omega)
           · rw [Below.heap_setCell _ _ _ _ (by show w.heap.size≠h i;omega),Below.heap_setCell _ _ _ _ (by show w.heap.size≠h i;omega)]
           · by_cases e:r=i∧c=j
             · rw [if_pos e]
               exact tl
             · rw [if_neg e]
               exact HF.out r hr c hc
end Go.Proofs.Ytfdomcnaaadedaa
