/- A matrix of floats, scaled: what its intervals hold. lin.Inverse: what it inverts is regular. -/
import Derived.Test.YtfdomcnaaadedaaZs33
import Derived.Test.YtfdomcnaaadedaaZs35
import Derived.Test.YtfdomcnaaadedaaZs39
import Derived.Test.YtfdomcnaaadedaaZs38
namespace Go.Proofs.Ytfdomcnaaadedaa
open Go.ChangeShapes Go.WideShapes Go.ChangeAt Go.RowKit
theorem fltB_fin {N:Nat} {RL:Nat→Nat} {X:Nat→Nat→Nat} (h:fltB N RL X=true) {r c:Nat} (hr:r<N) (hc:c<RL r):finB (X r c)=true:=by
 unfold fltB at h
 have h1:=(Bool.and_eq_true_iff.1 h).1
 have h2:=List.all_eq_true.1 h1 r (List.mem_range.2 hr)
 unfold rowFB at h2
 have h3:=(Bool.and_eq_true_iff.1 h2).2
 unfold finsB at h3
 exact List.all_eq_true.1 h3 c (List.mem_range.2 hc)
def scQ (P Q:Nat→Int) (i j r c:Nat):Rat:=if r<i∨(r=i∧c<j) then twQ (-(P r)-Q c) else 1
theorem scQ_next (P Q:Nat→Int) {i N r c:Nat} (hc:c<N):scQ P Q i N r c=scQ P Q (i+1) 0 r c:=by
 unfold scQ
 by_cases h:r<i∨(r=i∧c<N)
 · rw [if_pos h,if_pos (by omega)]
 · rw [if_neg h,if_neg (by omega)]
theorem scQ_other (P Q:Nat→Int) {i j r c:Nat} (h:¬(r=i∧c=j)):scQ P Q i j r c=scQ P Q i (j+1) r c:=by
 unfold scQ
 by_cases h2:r<i∨(r=i∧c<j)
 · rw [if_pos h2,if_pos (by omega)]
 · rw [if_neg h2,if_neg (by omega)]
theorem scQ_here (P Q:Nat→Int) (i j:Nat):scQ P Q i j i j=1∧scQ P Q i (j+1) i j=twQ (-(P i)-Q j):=by
 unfold scQ
 exact⟨if_neg (by omega),if_pos (by omega)⟩
theorem scQ_start (P Q:Nat→Int) (r c:Nat):scQ P Q 0 0 r c=1:=if_neg (by omega)
theorem scQ_end (P Q:Nat→Int) {N r c:Nat} (hr:r<N):scQ P Q N 0 r c=twQ (-(P r)-Q c):=if_pos (Or.inl hr)
set_option maxHeartbeats 4000000 in
theorem scaledH_w (A SR SC:Option Addr) (N C kr kc:Nat) (RA:Nat→Option Addr) (RL RC:Nat→Nat) (X:Nat→Nat→Nat) (P Q:Nat→Int) (hf:fltB N RL X=true) (hR:RL 0=N) (w:World) (V:Rfs w A N RA RL RC X) (U:Pws w SR N P) (T:Pws w SC N Q) :
   Calls Try.prog 12 #[.agg #[.slice SR N kr,.slice SC N kc],.slice A N C] w fun e w'=>∃g h F,e=.returned (.slice (some ⟨g,0,none⟩) N N)∧Grd w' g N N h F∧(∀r,r<N→∀c,c<N→Hq (F r c) (vq (key (X r c))*twQ (-(P r)-Q c)))∧Below w.heap.size w w':=by
 obtain⟨m1,m2,m3, -, -⟩:=fltB_parts hf
 obtain⟨sb,so,hSR, -⟩:=U 0 (by omega)
 obtain⟨tb,t0,hSC, -⟩:=T 0 (by omega)
 subst hSR
 subst hSC
 have cg:=fun w2 (hb:Below w.heap.size w w2)=>Points_new A N C RA RL RC X (by omega) hf w2 (V.keep hb)
 rw [hR] at cg
 have PW:Hid (∀r,r<N→∀c,c<N→Hq (ptsP X r c) (vq (key (X r c))*scQ P Q 0 0 r c)):=fun r hr c hc=>by
   rw [scQ_start,show vq (key (X r c))*1=vq (key (X r c)) by grind]
   have hc2:c<RL r:=by rw [m3 r hr,hR];exact hc
   exact hq_point (rfs_words V hr hc2) (fltB_fin hf hr hc2)
 clear m3 hf hR V
 go_enter Try.func12,Try.ntmps12
 go_wp2_with (go_at_call 13;refine (cg _ (by go_grown)).mono ?_;rintro _ w1 ⟨g,h,rfl,G0,hh,hb0⟩)
 have HX:Hid (Has2 w1 w.heap.size (.slice (some ⟨sb,so,none⟩) N kr) (.slice (some ⟨tb,t0,none⟩) N kc)):=Has2.keep ⟨by go_simp,by go_simp,by go_simp,by go_simp,by go_size⟩ hb0
 have HB:Below w.heap.size w w1:=later (by go_grown) hb0
 have HH:Hid (∀r,r<N→w.heap.size<h r):=fun r hr=>by have:=hh r hr;simp only [World.size_alloc] at this;omega
 clear hb0 hh cg
 go_loopg [13] N (fun G s13 wx=>Below w.heap.size w wx∧∃(i:Nat) (F:Nat→Nat→Nat×Nat),i+G=N∧s13=.int .i64 (i:Int)∧Grd wx g N N h F∧Hid (Has2 wx w.heap.size (.slice (some ⟨sb,so,none⟩) N kr) (.slice (some ⟨tb,t0,none⟩) N kc))∧Hid (∀r,r<N→∀c,c<N→Hq (F r c) (vq (key (X r c))*scQ P Q i 0 r c)))
 case atStart=>exact⟨HB,0,_,by omega,rfl,G0,HX,PW⟩
 case round =>
   clear HB G0 HX PW
   obtain⟨HB,i,F,hi,rfl,G0,HX,HF⟩:=hrel
   by_cases ci:i=N
   · subst ci
     go_wp2_with fail
     go_ret
     exact⟨g,h,F,rfl,G0,fun r hr c hc=>by rw [←scQ_end P Q hr];exact HF.out r hr c hc,HB⟩
   · have hlti:(i:Int)<(N:Int):=by omega
     obtain⟨g0, -⟩:=G0.out.2 i (by omega)
     go_wp2_with fail
     clear g0
     go_loopg [21] N (fun G s21 wy=>Below w.heap.size w wy∧∃(j:Nat) (F:Nat→Nat→Nat×Nat),j+G=N∧s21=.int .i64 (j:Int)∧Grd wy g N N h F∧Hid (Has2 wy w.heap.size (.slice (some ⟨sb,so,none⟩) N kr) (.slice (some ⟨tb,t0,none⟩) N kc))∧Hid (∀r,r<N→∀c,c<N→Hq (F r c) (vq (key (X r c))*scQ P Q i j r c)))
     case atStart=>exact⟨HB,0,F,by omega,rfl,G0,HX,HF⟩
     case round =>
       clear HB G0 HX HF F
       obtain⟨HB,j,F,hj,rfl,G0,HX,HF⟩:=hrel
       by_cases cj:j=N
       · subst cj
         go_wp2_with fail
         go_roundg (j-i-1)
         case measure=>omega
         case rel=>exact⟨HB,i+1,F,by omega,by go_num,G0,HX,fun r hr c hc=>by rw [←scQ_next P Q hc];exact HF.out r hr c hc⟩
       · have hltj:(j:Int)<(N:Int):=by omega
         obtain⟨i0,i1, -, -⟩:=id ((G0.row i (by omega)).2 j (by omega))
         have hq0:=HF.out i (by omega) j (by omega)
         rw [(scQ_here P Q i j).1,show vq (key (X i j))*1=vq (key (X i j)) by grind] at hq0
         have l1:=hq0.l1
         have l2:=hq0.l2
         obtain⟨b4,o4,hA4,lb4,u0,p1,p2⟩:=(U.keep HB) i (by omega)
         simp only [Option.some.injEq,Addr.mk.injEq,and_true] at hA4
         obtain⟨rfl,rfl⟩:=hA4
         obtain⟨b5,o5,hA5,lb5,y0,q1,q2⟩:=(T.keep HB) j (by omega)
         simp only [Option.some.injEq,Addr.mk.injEq,and_true] at hA5
         obtain⟨rfl,rfl⟩:=hA5
         have cc:=fun w=>tp_w (F i j).1 (F i j).2 (-(P i)-Q j) l1 l2 (by omega) (by omega) w
         have tl:Hid (Hq (tpP ((F i j).1,(F i j).2) (-(P i)-Q j)) (vq (key (X i j))*scQ P Q i (j+1) i j)):=by rw [(scQ_here P Q i j).2];exact hq_tp hq0 _
         clear hq0
         obtain⟨x,hx⟩:∃x,F i j=x:=⟨_,rfl⟩
         rw [hx] at i0 i1 cc tl l1 l2
         generalize tpP (x.1,x.2) (-(P i)-Q j)=z at *
         clear hx
         generalize P i=pi at cc u0 p1 p2
         generalize Q j=qj at cc y0 q1 q2
         go_upto_region 8 with fail
         have hbA:Below wr.heap.size wr (wr.alloc (Obj.cells #[.float .f64 x.1,.float .f64 x.2] 64)):=(Below.refl _ _).alloc (Nat.le_refl _) _
         have X2:Has2 (wr.alloc (Obj.cells #[.float .f64 x.1,.float .f64 x.2] 64)) wr.heap.size (.float .f64 x.1) (.float .f64 x.2):=⟨by go_simp,by go_simp,by go_simp,by go_simp,by go_size⟩
         replace u0:=keepsC hbA u0 lb4
         replace lb4:=Nat.lt_of_lt_of_le lb4 hbA.size
         replace y0:=keepsC hbA y0 lb5
         replace lb5:=Nat.lt_of_lt_of_le lb5 hbA.size
         replace HX:Hid (Has2 (wr.alloc (Obj.cells #[.float .f64 x.1,.float .f64 x.2] 64)) w.heap.size (.slice (some ⟨sb,so,none⟩) N kr) (.slice (some ⟨tb,t0,none⟩) N kc)):=HX.out.keep hbA
         replace G0:=G0.keep hbA
         replace HB:=later HB hbA
         clear i0 i1 hbA
         generalize wr.alloc (Obj.cells #[.float .f64 x.1,.float .f64 x.2] 64)=V1 at *
         generalize wr.heap.size=bx at *
         obtain⟨x0,x1, -, -,x4⟩:=HX.out
         obtain⟨g0, -⟩:=G0.out.2 i (by omega)
         have gl:=G0.out.1
         have k0:=fun n:Behind V1=>n.cell g0 gl
         have k1:=fun n:Behind V1=>n.cell X2.1 X2.2.2.2.2
         have k2:=fun n:Behind V1=>n.cell X2.2.1 X2.2.2.2.2
         have k4:=fun n:Behind V1=>n.cell u0 lb4
         have k5:=fun n:Behind V1=>n.cell y0 lb5
         have k6:=fun n:Behind V1=>n.cell x0 x4
         have k7:=fun n:Behind V1=>n.cell x1 x4
         refine tail_behind 19 (by kernel_rfl) (by kernel_rfl) ?_
         simp only [List.take_succ_cons,List.take_zero,List.drop_succ_cons,List.drop_zero]
         repeat (go_big_quiet_step (first
           | (go_at_call 34;with_reducible refine Behind.call (cc _))))
         refine wpQuiet_nil ?_
         rintro _ ⟨q,rfl⟩
         obtain⟨W,hb1⟩:=q
         dsimp only
         clear k0 k1 k2 k4 k5 k6 k7 g0 gl u0 y0 x0 x1 cc X2
         replace G0:=G0.keep hb1
         replace HB:=later HB hb1
         replace HX:Hid (Has2 W w.heap.size (.slice (some ⟨sb,so,none⟩) N kr) (.slice (some ⟨tb,t0,none⟩) N kc)):=HX.out.keep hb1
         clear hb1
         obtain⟨i0,i1,f0,f1⟩:=id ((G0.row i (by omega)).2 j (by omega))
         go_wp2_with fail
         go_roundg (N-j-1)
         case measure=>omega
         case rel =>
           have hhi:=HH.out i (by omega)
           refine⟨?_,j+1,_,by omega,by go_num,G0.set i j _ _ (by omega) (by omega),HX.out.block ?_ (by go_size),fun r hr c hc=>?_⟩
           · repeat' (first | (with_reducible exact HB) | (with_reducible refine Below.setCell ?_ ?_ _) | go_size | omega)
           · rw [Below.heap_setCell _ _ _ _ (by show w.heap.size≠h i;omega),Below.heap_setCell _ _ _ _ (by show w.heap.size≠h i;omega)]
           · by_cases e:r=i∧c=j
             · rw [if_pos e,e.1,e.2]
               exact tl.out
             · rw [if_neg e,←scQ_other P Q e]
               exact HF.out r hr c hc
theorem twQ_add (a b:Int):twQ (a+b)=twQ a*twQ b:=by
 have h:pwU (a+b)*pwU (-a)*pwU (-b)=pwU a*pwU b*pwU (-(a+b)):=by
   unfold pwU
   rw [←Nat.pow_add,←Nat.pow_add,←Nat.pow_add,←Nat.pow_add]
   congr 1
   omega
 have h2:((pwU (a+b):Int):Rat)*((pwU (-a):Int):Rat)*((pwU (-b):Int):Rat)=((pwU a:Int):Rat)*((pwU b:Int):Rat)*((pwU (-(a+b)):Int):Rat):=by
   rw [←Rat.intCast_mul,←Rat.intCast_mul,←Rat.intCast_mul,←Rat.intCast_mul]
   congr 1
   rw [←Int.natCast_mul,←Int.natCast_mul,←Int.natCast_mul,←Int.natCast_mul,h]
 have i1:=pwU_inv (-a)
 have i2:=pwU_inv (-b)
 have i3:=pwU_inv (-(a+b))
 unfold twQ
 generalize ((pwU (a+b):Int):Rat)=s at *
 generalize ((pwU (-(a+b)):Int):Rat)=t at *
 generalize ((pwU a:Int):Rat)=x at *
 generalize ((pwU b:Int):Rat)=y at *
 generalize ((pwU (-a):Int):Rat)=u at *
 generalize ((pwU (-b):Int):Rat)=v at *
 generalize t⁻¹=t' at *
 generalize u⁻¹=u' at *
 generalize v⁻¹=v' at *
 have e1:s*t'=s*u*v*(u'*v'*t'):=by
   have:s*u*v*(u'*v'*t')=s*t'*(u*u')*(v*v'):=by grind
   rw [this,i1,i2];grind
 have e2:x*u'*(y*v')=x*y*t*(u'*v'*t'):=by
   have:x*y*t*(u'*v'*t')=x*u'*(y*v')*(t*t'):=by grind
   rw [this,i3];grind
 rw [e1,e2,h2]
def sclQ (X:Nat→Nat→Nat) (P Q:Nat→Int) (r c:Nat):Rat:=vq (key (X r c))*twQ (-(P r)-Q c)
def RegQ (n:Nat) (X:Nat→Nat→Nat):Prop:=∀u:Nat→Rat,(∀r,r<n→sumQ (fun c=>vq (key (X r c))*u c) n=0)→∀c,c<n→u c=0
def oneQ (i j:Nat):Rat:=if i=j then 1 else 0
def prodQ (n:Nat) (x y:Nat→Nat→Rat) (i j:Nat):Rat:=sumQ (fun k=>x i k*y k j) n
def lessQ (x y:Nat→Nat→Rat) (i j:Nat):Rat:=x i j-y i j
theorem reg_of {n:Nat} {X:Nat→Nat→Nat} {P Q:Nat→Int} {R:Nat→Nat→Rat} (h:∀i,i<n→sumQ (fun c=>absQ (lessQ oneQ (prodQ n R (sclQ X P Q)) i c)) n<1):RegQ n X:=by
 intro u hu c hc
 have g:=regular (n:=n) (R:=R) (B:=sclQ X P Q) h (v:=fun c=>twQ (Q c)*u c) (fun r hr=>?_) c hc
 · have p:=twQ_pos (Q c)
   generalize twQ (Q c)=t at *
   have i:=Rat.mul_inv_cancel t (by grind)
   have g2:t*u c=0:=g
   have:u c=(t*u c)*t⁻¹:=by grind
   rw [this,g2]
   grind
 · have e:∀c,sclQ X P Q r c*(twQ (Q c)*u c)=twQ (-(P r))*(vq (key (X r c))*u c):=fun c=>by
     unfold sclQ
     have a:=twQ_add (-(P r)-Q c) (Q c)
     rw [show -(P r)-Q c+Q c=-(P r) by omega] at a
     rw [a]
     grind
   rw [sumQ_congr (fun c _=>e c),sumQ_mul,hu r hr]
   grind
theorem hq_nought:Hq (0,0) 0:=by
 have h:=am_hq (a:=0) (x:=0) (Nat.zero_le _) Rat.le_refl (Or.inr (by rw [show ((0:Nat):Int)=0 from rfl,vq_zero];exact Rat.le_refl))
 exact h
theorem hq_dot {X Y:Nat→Nat×Nat} {x y:Nat→Rat}:∀n,(∀k,k<n→Hq (X k) (x k))→(∀k,k<n→Hq (Y k) (y k))→Hq (dotP X Y n) (sumQ (fun k=>x k*y k) n):=by
 intro n
 induction n with
 | zero=>intro _ _;exact hq_nought
 | succ n ih =>
   intro h k
   exact hq_add (ih (fun j hj=>h j (by omega)) (fun j hj=>k j (by omega))) (hq_mul (h n (by omega)) (k n (by omega)))
theorem hq_one (i j:Nat):Hq (oneP i j) (oneQ i j):=by
 unfold oneP oneQ
 by_cases h:i=j
 · rw [if_pos h,if_pos h]
   have:=hq_point (a:=4607182418800017408) (by omega) (by decide)
   rw [show key 4607182418800017408=4607182418800017408 by decide,vq_one] at this
   exact this
 · rw [if_neg h,if_neg h]
   exact hq_nought
def SqH (w:World) (A:Option Addr) (n:Nat) (x:Nat→Nat→Rat):Prop:=∃g h F,A=some ⟨g,0,none⟩∧Grd w g n n h F∧∀r,r<n→∀c,c<n→Hq (F r c) (x r c)
theorem SqH.keep {w w2:World} {A:Option Addr} {n:Nat} {x:Nat→Nat→Rat} (h:SqH w A n x) (hb:Below w.heap.size w w2):SqH w2 A n x:=by
 obtain⟨g,k,F,e,G,l⟩:=h
 exact⟨g,k,F,e,G.keep hb,l⟩
theorem SqH.sq {w:World} {A:Option Addr} {n:Nat} {x:Nat→Nat→Rat} (h:SqH w A n x):Sq w A n:=by
 obtain⟨g,k,F,e,G,l⟩:=h
 exact⟨g,k,F,e,G,fun r hr c hc=>⟨(l r hr c hc).l1,(l r hr c hc).l2⟩⟩
theorem SqH.rws {w:World} {A:Option Addr} {n:Nat} {x:Nat→Nat→Rat} (h:SqH w A n x) (hn:n≤24):∃RA RC X,Rws w A n RA (fun _=>n) RC X∧∀r,r<n→∀c,c<n→Hq (X r c) (x r c):=by
 obtain⟨g,k,F,rfl,G,l⟩:=h
 exact⟨_,_,_,G.rws (by omega) (fun r hr c hc=>⟨(l r hr c hc).l1,(l r hr c hc).l2⟩),l⟩
theorem prod_sqH (A B:Option Addr) (n:Nat) (n1:1≤n) (n2:n≤24) (x y:Nat→Nat→Rat) (w:World) (V:SqH w A n x) (U:SqH w B n y) :
   Calls Try.prog 18 #[.slice A n n,.slice B n n] w fun e w'=>(∃C,e=.returned (.slice C n n)∧SqH w' C n (prodQ n x y))∧Below w.heap.size w w':=by
 obtain⟨RA,RC,X,V,hx⟩:=V.rws n2
 obtain⟨SA,SC,Y,U,hy⟩:=U.rws n2
 refine (prodM_w A B n n n n n RA SA _ RC _ SC X Y n2 n2 n1 n2 (fun _ _=>rfl) (fun _ _=>rfl) w V U).mono fun e w' ⟨g,h,a,b,c⟩=>⟨⟨_,a,g,h,_,rfl,b,fun r hr c hc=>?_⟩,c⟩
 exact hq_dot n (fun k hk=>hx r hr k hk) (fun k hk=>hy k hk c hc)
theorem less_sqH (A B:Option Addr) (n:Nat) (n1:1≤n) (n2:n≤24) (x y:Nat→Nat→Rat) (w:World) (V:SqH w A n x) (U:SqH w B n y) :
   Calls Try.prog 16 #[.slice A n n,.slice B n n] w fun e w'=>(∃C,e=.returned (.slice C n n)∧SqH w' C n (lessQ x y))∧Below w.heap.size w w':=by
 obtain⟨RA,RC,X,V,hx⟩:=V.rws n2
 obtain⟨SA,SC,Y,U,hy⟩:=U.rws n2
 refine (mless_w A B n n n n RA SA _ RC _ SC X Y n2 n1 n2 (fun _ _=>rfl) (fun _ _=>rfl) w V U).mono fun e w' ⟨⟨g,h,a,b⟩,c⟩=>⟨⟨_,a,g,h,_,rfl,b,fun r hr c hc=>?_⟩,c⟩
 exact hq_sub (hx r hr c hc) (hy r hr c hc)
theorem one_sqH (n:Nat) (n1:1≤n) (n2:n≤24) (w:World):Calls Try.prog 17 #[.int .i64 (n:Int)] w fun e w'=>(∃C,e=.returned (.slice C n n)∧SqH w' C n oneQ)∧Below w.heap.size w w' :=
 (One_good n n1 n2 w).mono fun _ _ ⟨g,k,he,G,hb⟩=>⟨⟨_,he,g,k,_,rfl,G,fun r _ c _=>hq_one r c⟩,hb⟩
theorem pts_nrH (A:Option Addr) (l n C:Nat) (hn:n≤24) (w:World) (V:Nr w A l n) :
   Calls Try.prog 13 #[.slice A l C] w fun e w'=>(∃B L D,e=.returned (.slice B L D)∧((B=none∧L=0∧D=0)∨(n=L∧n=D∧∃R,SqH w' B n R)))∧Below w.heap.size w w':=by
 obtain⟨RA,RL,RC,X,V,hl,hr⟩:=V
 cases hf:fltB l RL X
 · exact (Points_bad A l C RA RL RC X (by omega) hf w V).mono fun e w' ⟨a,b⟩=>⟨⟨none,0,0,a,Or.inl ⟨rfl,rfl,rfl⟩⟩,b⟩
 · obtain⟨m1,m2,m3,m4,m5⟩:=fltB_parts hf
   have e1:l=n:=by omega
   subst e1
   have e2:RL 0=l:=by rcases hr 0 (by omega) with e | e <;> omega
   have c:=Points_good A l C RA RL RC X (by omega) hf w V
   rw [e2] at c
   refine c.mono fun e w' ⟨g,h,a,b,d⟩=>⟨⟨_,_,_,a,Or.inr ⟨rfl,rfl,fun r c=>vq (key (X r c)),g,h,_,rfl,b,fun r hr' c hc=>?_⟩⟩,d⟩
   exact hq_point (rfs_words V hr' (by rw [m3 r hr',e2];exact hc)) (fltB_fin hf hr' (by rw [m3 r hr',e2];exact hc))
def RoomQ (n:Nat) (x:Nat→Nat→Rat) (u:Nat):Prop:=u<18446744073709551616∧∀v,addR 4607182418800017408 (negB u) (-1)=some v→0<key v→∀i,i<n→sumQ (fun c=>absQ (x i c)) n<1
theorem normH_w (B:Option Addr) (n:Nat) (n2:n≤24) (x:Nat→Nat→Rat) (W:World) (V:SqH W B n x) :
   Calls Try.prog 20 #[.slice B n n] W fun e w'=>(∃u,e=.returned (.float .f64 u)∧RoomQ n x u)∧Below W.heap.size W w':=by
 obtain⟨RA,RC,X,V,hx⟩:=V.rws n2
 refine (norm_w B n n RA _ RC X (by omega) W V).mono fun e w' ⟨a,b⟩=>⟨⟨_,a,(norm_am _ X n).lt,fun v e hv i hi=>?_⟩,b⟩
 have:=norm_room (RL:=fun _=>n) hx e hv i hi
 rw [vq_one] at this
 exact this
theorem roomH_w (n u:Nat) (x:Nat→Nat→Rat) (W:World) (h:RoomQ n x u) :
   Calls Try.prog 19 #[.float .f64 4607182418800017408,.float .f64 u,.int .i64 (-1)] W fun e w'=>(∃v,e=.returned (.float .f64 v)∧v<18446744073709551616∧((FloatKind.f64.format.order v 0==some .gt)=true→∀i,i<n→sumQ (fun c=>absQ (x i c)) n<1))∧Below W.heap.size W w':=by
 refine (sub_w 4607182418800017408 u (-1) (by omega) h.1 W).mono fun e w' ⟨⟨r,a,b,m⟩,d⟩=>⟨⟨r,a,b,fun g=>?_⟩,d⟩
 have o:=order_eq r 0 b (by omega)
 have k0:key 0=0:=by decide
 have n0:nanB 0=false:=by decide
 rw [n0,k0] at o
 cases e1:addR 4607182418800017408 (negB u) (-1)
 · rw [e1] at m
   have m2:nanB r=true:=m
   rw [m2] at o
   rw [o] at g
   cases g
 · rename_i v
   rw [e1] at m
   obtain rfl:r=v:=m
   refine h.2 r e1 ?_
   cases nn:nanB r
   · rw [nn] at o
     simp only [Bool.or_self,Bool.false_eq_true,if_false] at o
     rw [o] at g
     rw [beq_iff_eq,Option.some.injEq] at g
     exact Int.compare_eq_gt.1 g
   · rw [nn] at o
     rw [o] at g
     cases g
def InvG (n:Nat) (X:Nat→Nat→Nat) (e:Ending) (w':World):Prop:=∃B L er,e=.returned (.tuple #[.slice B L L,.int .i64 er])∧(er=40∨(er=0∧n=L∧Sq w' B n∧RegQ n X))
set_option maxRecDepth 4000 in
set_option maxHeartbeats 16000000 in
theorem inverseR_good (A:Option Addr) (n C:Nat) (RA:Nat→Option Addr) (RL RC:Nat→Nat) (X:Nat→Nat→Nat) (n1:1≤n) (n2:n≤24) (hf:fltB n RL X=true) (hR:RL 0=n) (w:World) (V:Rfs w A n RA RL RC X)
   (c1:Calls Try.prog 10 #[.slice A n C] w fun e w'=>e=.returned (.bool true)∧Below w.heap.size w w')
   (c2:∀W,Below w.heap.size w W→Calls Try.prog 11 #[.slice A n C] W fun e w'=>SclAns n e w'∧Below W.heap.size W w') :
   Calls Try.prog 5 #[.slice A n C] w fun e w'=>InvG n X e w'∧Below w.heap.size w w':=by
 have c3:∀W gr gc P Q,Below w.heap.size w W→Pws W (some ⟨gr,0,none⟩) n P→Pws W (some ⟨gc,0,none⟩) n Q→Calls Try.prog 12 #[.agg #[.slice (some ⟨gr,0,none⟩) n n,.slice (some ⟨gc,0,none⟩) n n],.slice A n C] W fun e w'=>(∃B,e=.returned (.slice B n n)∧SqH w' B n (sclQ X P Q))∧Below W.heap.size W w':=fun W gr gc P Q hW p q =>
   (scaledH_w A _ _ n C n n RA RL RC X P Q hf hR W (V.keep hW) p q).mono fun e w' ⟨g,h,F,a,b,c,d⟩=>⟨⟨_,a,g,h,F,rfl,b,c⟩,d⟩
 have c4:∀W B,Sq W B n→Calls Try.prog 15 #[.slice B n n] W fun e w'=>(∃g h,e=.returned (.slice (some ⟨g,0,none⟩) n n)∧Tab W.heap.size w' g n n h)∧Below W.heap.size W w':=fun W B V=>by
   obtain⟨RA,RC,X,V⟩:=V.rws n2
   exact (middles_w B n n n RA _ RC X n2 n1 n2 n1 (fun _ _=>rfl) W V).mono fun e w' ⟨g,h,a,b,_,d⟩=>⟨⟨g,h,a,b⟩,d⟩
 have c5:=fun W B x=>normH_w B n n2 x W
 have c6:=fun W u x=>roomH_w n u x W
 have c7:∀W B gr gc P Q,Sq W B n→Pws W (some ⟨gr,0,none⟩) n P→Pws W (some ⟨gc,0,none⟩) n Q→Calls Try.prog 23 #[.agg #[.slice (some ⟨gr,0,none⟩) n n,.slice (some ⟨gc,0,none⟩) n n],.slice B n n] W fun e w'=>(∃C,e=.returned (.slice C n n)∧Sq w' C n)∧Below W.heap.size W w':=fun W B gr gc P Q V p q=>by
   obtain⟨RA,RC,X,V⟩:=V.rws n2
   exact (back_w B _ _ n n n n RA _ RC X P Q n2 n1 (fun _ _=>rfl) W V p q).mono fun e w' ⟨g,h,F,a,b,c,d⟩=>⟨⟨_,a,g,h,F,rfl,b,c⟩,d⟩
 have eqn:∀(w:World) (a:Option Addr) (n c n' c':Nat),(binOp .eql 25 (.slice a n c) (.slice none n' c')).run Try.prog w=.ok (.bool a.isNone) w:=fun w a n c n' c'=>Go.Lib.run_eql_slice_nil w _ _ a n c n' c' Try.underlying25
 have npH:=fun W B D x y=>prod_sqH B D n n1 n2 x y W
 have nlH:=fun W B D x y=>less_sqH B D n n1 n2 x y W
 have noH:=fun W=>one_sqH n n1 n2 W
 have np:=fun W B D=>prod_sq B D n n1 n2 W
 have nu:=fun W B D=>plus_sq B D n n1 n2 W
 have nb:=fun W B room hr=>balls_sq B n room n2 hr W
 clear V hf hR
 go_enter Try.func5,Try.ntmps5
 go_upto_region 3 with (go_at_call 10;(with_reducible refine c1.mono ?_);rintro _ W1 ⟨rfl,HB⟩)
 go_upto_region 4 with (go_at_call 11;(with_reducible refine (c2 _ HB).mono ?_);rintro _ W2 ⟨⟨A1,l1,k1,A2,l2,k2,ok,rfl,hok⟩,hb2⟩;replace HB:=later HB hb2;clear hb2)
 cases ok
 · go_wp2_with fail
   refine bodyPost_ret (v:=.tuple #[.slice none 0 0,.int .i64 40]) (by simp [results,Try.results5,go_sem]) rfl ⟨⟨none,0,40,rfl,Or.inl rfl⟩,below_alloc HB _⟩
 obtain⟨gr,gc,P,Q,rfl,rfl,rfl,rfl,rfl,rfl,hP,hQ⟩:=hok rfl
 have S:=has2_new W2 (.slice (some ⟨gr,0,none⟩) n n) (.slice (some ⟨gc,0,none⟩) n n) 40
 have hb3:Below W2.heap.size W2 (W2.alloc (.cells #[.slice (some ⟨gr,0,none⟩) n n,.slice (some ⟨gc,0,none⟩) n n] 40)):=by go_grown
 replace HB:=later HB hb3;replace hP:=hP.keep hb3;replace hQ:=hQ.keep hb3
 clear hb3 hok c1 c2
 generalize W2.alloc (.cells #[.slice (some ⟨gr,0,none⟩) n n,.slice (some ⟨gc,0,none⟩) n n] 40)=W3 at *
 generalize W2.heap.size=sb at *
 obtain⟨s0,s1,s2,s3,s4⟩:=id S
 go_upto_region 8 with (first
   | (go_at_call 12;(with_reducible refine (c3 _ _ _ _ _ HB hP hQ).mono ?_);rintro _ W4 ⟨⟨Bb,rfl,Sb⟩,hb1⟩;replace HB:=later HB hb1;replace S:=S.keep hb1;replace hP:=hP.keep hb1;replace hQ:=hQ.keep hb1;clear hb1 s0 s1 s2 s3 s4;obtain⟨s0,s1,s2,s3,s4⟩:=id S)
   | (go_at_call 15;(with_reducible refine (c4 _ _ Sb.sq).mono ?_);rintro _ W5 ⟨⟨gm,hm,rfl,Tm⟩,hb1⟩;replace HB:=later HB hb1;replace S:=S.keep hb1;replace hP:=hP.keep hb1;replace hQ:=hQ.keep hb1;replace Sb:=Sb.keep hb1;clear hb1 s0 s1 s2 s3 s4;obtain⟨s0,s1,s2,s3,s4⟩:=id S)
   | (go_at_call 14;(with_reducible refine (near_nr _ _ _ _ n2 _ Tm).mono ?_);rintro _ W6 ⟨⟨An,ln,Cn,rfl,Nn⟩,hb1⟩;replace HB:=later HB hb1;replace S:=S.keep hb1;replace hP:=hP.keep hb1;replace hQ:=hQ.keep hb1;replace Sb:=Sb.keep hb1;clear hb1 s0 s1 s2 s3 s4;obtain⟨s0,s1,s2,s3,s4⟩:=id S)
   | (go_at_call 13;(with_reducible refine (pts_nrH _ _ _ _ n2 _ Nn).mono ?_);rintro _ W7 ⟨⟨Ap,lp,Cp,rfl,hp⟩,hb1⟩;replace HB:=later HB hb1;replace S:=S.keep hb1;replace hP:=hP.keep hb1;replace hQ:=hQ.keep hb1;replace Sb:=Sb.keep hb1;clear hb1 s0 s1 s2 s3 s4;obtain⟨s0,s1,s2,s3,s4⟩:=id S))
 rcases hp with ⟨rfl,rfl,rfl⟩ | ⟨rfl,rfl,R,Sr⟩
 · go_wp2_with fail
   refine bodyPost_ret (v:=.tuple #[.slice none 0 0,.int .i64 40]) (by simp [results,Try.results5,go_sem]) rfl ⟨⟨none,0,40,rfl,Or.inl rfl⟩,HB⟩
 obtain⟨gq,eq⟩:∃gq,Ap=some ⟨gq,0,none⟩:=by obtain⟨g,_,_,e,_⟩:=Sr;exact⟨g,e⟩
 subst eq
 go_upto_region 12 with (first
   | (go_at_call 17;(with_reducible refine (noH _).mono ?_);rintro _ W8 ⟨⟨Bo,rfl,So⟩,hb1⟩;replace HB:=later HB hb1;replace S:=S.keep hb1;replace hP:=hP.keep hb1;replace hQ:=hQ.keep hb1;replace Sb:=Sb.keep hb1;replace Sr:=Sr.keep hb1;clear hb1 s0 s1 s2 s3 s4;obtain⟨s0,s1,s2,s3,s4⟩:=id S)
   | (go_at_call 18;(with_reducible refine (npH _ _ _ _ _ Sr Sb).mono ?_);rintro _ W9 ⟨⟨Bp,rfl,Sp⟩,hb1⟩;replace HB:=later HB hb1;replace S:=S.keep hb1;replace hP:=hP.keep hb1;replace hQ:=hQ.keep hb1;replace So:=So.keep hb1;replace Sr:=Sr.keep hb1;clear hb1 s0 s1 s2 s3 s4;obtain⟨s0,s1,s2,s3,s4⟩:=id S)
   | (go_at_call 16;(with_reducible refine (nlH _ _ _ _ _ So Sp).mono ?_);rintro _ Wa ⟨⟨Be,rfl,Se⟩,hb1⟩;replace HB:=later HB hb1;replace S:=S.keep hb1;replace hP:=hP.keep hb1;replace hQ:=hQ.keep hb1;replace Sr:=Sr.keep hb1;clear hb1 s0 s1 s2 s3 s4;obtain⟨s0,s1,s2,s3,s4⟩:=id S)
   | (go_at_call 20;(with_reducible refine (c5 _ _ _ Se).mono ?_);rintro _ Wb ⟨⟨u,rfl,hu⟩,hb1⟩;replace HB:=later HB hb1;replace S:=S.keep hb1;replace hP:=hP.keep hb1;replace hQ:=hQ.keep hb1;replace Sr:=Sr.keep hb1;replace Se:=Se.keep hb1;clear hb1 s0 s1 s2 s3 s4;obtain⟨s0,s1,s2,s3,s4⟩:=id S)
   | (go_at_call 19;(with_reducible refine (c6 _ _ _ hu).mono ?_);rintro _ Wc ⟨⟨v,rfl,hv,hroom⟩,hb1⟩;replace HB:=later HB hb1;replace S:=S.keep hb1;replace hP:=hP.keep hb1;replace hQ:=hQ.keep hb1;replace Sr:=Sr.keep hb1;replace Se:=Se.keep hb1;clear hb1 s0 s1 s2 s3 s4;obtain⟨s0,s1,s2,s3,s4⟩:=id S))
 have hg:(FloatKind.f64.format.order v 0==some .gt)=true∨(FloatKind.f64.format.order v 0==some .gt)=false:=by cases (FloatKind.f64.format.order v 0==some .gt) <;> simp
 rcases hg with hg | hg
 case inr =>
   go_wp2_with fail
   refine bodyPost_ret (v:=.tuple #[.slice none 0 0,.int .i64 40]) (by simp [results,Try.results5,go_sem]) rfl ⟨⟨none,0,40,rfl,Or.inl rfl⟩,HB⟩
 have REG:Hid (RegQ n X):=reg_of (hroom hg)
 replace Sr:=Sr.sq
 replace Se:=Se.sq
 clear hroom hu npH nlH noH
 go_wp2_with (go_at_call 21;(with_reducible refine (nb _ _ _ hv Sr).mono ?_);rintro _ Wd ⟨⟨Bx,rfl,Sx⟩,hb1⟩;replace HB:=later HB hb1;replace S:=S.keep hb1;replace hP:=hP.keep hb1;replace hQ:=hQ.keep hb1;replace Sr:=Sr.keep hb1;replace Se:=Se.keep hb1;clear hb1 s0 s1 s2 s3 s4;obtain⟨s0,s1,s2,s3,s4⟩:=id S)
 clear s0 s1 s2 s3 s4
 go_loopg [10,46] 2 (fun G s10 s46 wx=>Below w.heap.size w wx∧Has2 wx sb (.slice (some ⟨gr,0,none⟩) n n) (.slice (some ⟨gc,0,none⟩) n n)∧Pws wx (some ⟨gr,0,none⟩) n P∧Pws wx (some ⟨gc,0,none⟩) n Q∧Sq wx (some ⟨gq,0,none⟩) n∧Sq wx Be n∧∃(i:Nat) (Bx:Option Addr),i+G=2∧s46=.int .i64 (i:Int)∧s10=.slice Bx n n∧Sq wx Bx n)
 case atStart=>exact⟨HB,S,hP,hQ,Sr,Se,0,_,by omega,rfl,rfl,Sx⟩
 case round =>
   clear HB S hP hQ Sr Se Sx
   obtain⟨HB,S,hP,hQ,Sr,Se,i,By,hi,rfl,rfl,Sx⟩:=hrel
   by_cases ci:i=2
   · subst ci
     obtain⟨s0,s1,s2,s3,s4⟩:=id S
     go_wp2_with (go_at_call 23;(with_reducible refine (c7 _ _ _ _ _ _ Sx hP hQ).mono ?_);rintro _ We ⟨⟨Bz,rfl,Sz⟩,hb1⟩;replace HB:=later HB hb1)
     refine bodyPost_ret (v:=.tuple #[.slice Bz n n,.int .i64 0]) (by simp [results,Try.results5,go_sem]) rfl ⟨⟨Bz,n,0,rfl,Or.inr ⟨rfl,rfl,Sz,REG.out⟩⟩,HB⟩
   · have hlt:(i:Int)<2:=by omega
     go_wp2_with (first
       | (go_at_call 18;(with_reducible refine (np _ _ _ Se Sx).mono ?_);rintro _ We ⟨⟨Bp2,rfl,Sp2⟩,hb1⟩;replace HB:=later HB hb1;replace S:=S.keep hb1;replace hP:=hP.keep hb1;replace hQ:=hQ.keep hb1;replace Sr:=Sr.keep hb1;replace Se:=Se.keep hb1;clear hb1)
       | (go_at_call 22;(with_reducible refine (nu _ _ _ Sr Sp2).mono ?_);rintro _ Wf ⟨⟨Bq,rfl,Sq2⟩,hb1⟩;replace HB:=later HB hb1;replace S:=S.keep hb1;replace hP:=hP.keep hb1;replace hQ:=hQ.keep hb1;replace Sr:=Sr.keep hb1;replace Se:=Se.keep hb1;clear hb1))
     go_roundg (2-i-1)
     case measure=>omega
     case rel=>exact⟨HB,S,hP,hQ,Sr,Se,i+1,_,by omega,by go_num,rfl,Sq2⟩
theorem inverseG_w (A:Option Addr) (n C:Nat) (RA:Nat→Option Addr) (RL RC:Nat→Nat) (X:Nat→Nat→Nat) (hf:fltB n RL X=true) (hR:n=RL 0) (w:World) (V:Rfs w A n RA RL RC X) :
   Calls Try.prog 5 #[.slice A n C] w fun e w'=>InvG n X e w'∧Below w.heap.size w w':=by
 obtain⟨m1,m2,m3,m4,m5⟩:=fltB_parts hf
 have c1:=square_w A n C RA RL RC X (by omega) w V
 rw [hf,decide_eq_true hR] at c1
 refine inverseR_good A n C RA RL RC X m1 m2 hf hR.symm w V c1 fun W hW=>?_
 refine scalesOf_w A n C RA RL RC X m1 m2 (fun r hr=>by rw [m3 r hr,←hR]) (fun r hr c hc=>?_) W (V.keep hW)
 unfold fltB at hf
 simp only [Bool.and_eq_true] at hf
 have q:=all_upto.1 hf.1 r hr
 unfold rowFB at q
 simp only [Bool.and_eq_true] at q
 exact all_upto.1 q.2 c (by rw [m3 r hr,←hR];exact hc)
end Go.Proofs.Ytfdomcnaaadedaa
