/- lin.Inverse: what it tells holds the inverse. The inverse of up to three rows, by cofactors. -/
import Derived.Test.YtlabmpngbcnhpaaGreatZi40
namespace Go.Proofs.YtlabmpngbcnhpaaGreat
open Go.ChangeShapes Go.WideShapes Go.ChangeAt Go.RowKit
def InvOf (n:Nat) (X:Nat→Nat→Nat) (Z:Nat→Nat→Rat):Prop:=∀r,r<n→∀c,c<n→prodQ n (fun r c=>vq (key (X r c))) Z r c=oneQ r c
theorem SqH.congr {w:World} {A:Option Addr} {n:Nat} {x y:Nat→Nat→Rat} (h:SqH w A n x) (e:∀i,i<n→∀j,j<n→x i j=y i j):SqH w A n y:=by
 obtain⟨g,k,F,a,G,l⟩:=h
 exact⟨g,k,F,a,G,fun r hr c hc=>by rw [←e r hr c hc];exact l r hr c hc⟩
theorem plus_sqH (A B:Option Addr) (n:Nat) (n1:1≤n) (n2:n≤24) (x y:Nat→Nat→Rat) (w:World) (V:SqH w A n x) (U:SqH w B n y) :
   Calls Tryz.prog 23 #[.slice A n n,.slice B n n] w fun e w'=>(∃C,e=.returned (.slice C n n)∧SqH w' C n (fun i j=>x i j+y i j))∧Below w.heap.size w w':=by
 obtain⟨RA,RC,X,V,hx⟩:=V.rws n2
 obtain⟨SA,SC,Y,U,hy⟩:=U.rws n2
 refine (mplus_w A B n n n n RA SA _ RC _ SC X Y n2 n1 n2 (fun _ _=>rfl) (fun _ _=>rfl) w V U).mono fun e w' ⟨⟨g,h,a,b⟩,c⟩=>⟨⟨_,a,g,h,_,rfl,b,fun r hr c hc=>?_⟩,c⟩
 exact hq_add (hx r hr c hc) (hy r hr c hc)
theorem gm_up (X:Nat→Nat×Nat) (x:Nat→Rat):∀n,(∀j,j<n→Hq (X j) (x j))→∀j,j<n→UpQ (gmP X n) (absQ (x j)):=by
 intro n
 induction n with
 | zero=>intro _ j hj;omega
 | succ n ih =>
   intro h j hj
   have am:=gm_am X n
   have mm:Am (magP (X n).1 (X n).2):=mag_am
   have e:gmP X (n+1)=if gmP X n<magP (X n).1 (X n).2 then magP (X n).1 (X n).2 else gmP X n:=maxW_am am mm
   have mono:∀{a b:Nat} {y:Rat},a≤b→Am b→UpQ a y→UpQ b y:=fun {a b y} hab hb u=>by
     unfold Am at hb
     rcases u with c | c
     · exact Or.inl (by omega)
     · exact Or.inr (Rat.le_trans c (vq_le (by omega)))
   have a2:=gm_am X (n+1)
   by_cases c:j=n
   · subst c
     exact mono (by rw [e];split <;> omega) a2 (hq_mag (h j (by omega)))
   · exact mono (by rw [e];split <;> omega) a2 (ih (fun k hk=>h k (by omega)) j (by omega))
def RoomK (n:Nat) (x:Nat→Nat→Rat) (u:Nat):Prop:=u<18446744073709551616∧∀v,addR 4607182418800017408 (negB u) (-1)=some v→0<key v→key v≠9218868437227405312∧∀i,i<n→sumQ (fun c=>absQ (x i c)) n≤1-vq (key v)
theorem norm_roomK {RL:Nat→Nat} {X:Nat→Nat→Nat×Nat} {x:Nat→Nat→Rat} {n v:Nat} (h:∀i,i<n→∀j,j<RL i→Hq (X i j) (x i j))
   (e:addR 4607182418800017408 (negB (normP RL X n)) (-1)=some v) (hv:0<key v):key v≠9218868437227405312∧∀i,i<n→sumQ (fun c=>absQ (x i c)) (RL i)≤1-vq (key v):=by
 have am:=norm_am RL X n
 have k1:key 4607182418800017408=4607182418800017408:=by decide
 have kn:key (negB (normP RL X n))=-(normP RL X n:Int):=by rw [key_negB am.lt,key_am am]
 have nn:nanB (negB (normP RL X n))=false:=by rw [nanB_negB am.lt];exact am.num
 have ln:=negB_lt am.lt
 have s:=norm_sum RL X n
 generalize normP RL X n=m at *
 have amm:=am
 unfold Am at am
 have n1:nanB 4607182418800017408=false:=by decide
 have hm:m≠9218868437227405312:=by
   intro c
   have:=addR_bot2 (a:=4607182418800017408) (b:=negB m) (by omega) ln n1 nn (by rw [kn];omega) e
   omega
 have fm:finB (negB m)=true:=fin_two ln nn (by rw [kn];omega) (by rw [kn];omega)
 have f1:finB 4607182418800017408=true:=by decide
 rw [addR_fin (-1) f1 fm] at e
 have ev:=Option.some.inj e
 have kd:=addF_down (a:=4607182418800017408) (b:=negB m) (by omega) ln f1 fm
 rw [ev] at kd
 refine⟨by have:=kd.top;omega,fun i hi=>?_⟩
 have L:=add_loF (a:=4607182418800017408) (b:=negB m) (by omega) ln f1 fm
 rw [ev,k1,kn,vq_one,vq_neg] at L
 rcases L with c | c
 · omega
 have su:=sum_up (X i) (x i) (RL i) (h i hi)
 have si:=s i hi
 rcases su with d | d
 · omega
 have p2:=vq_le (show ((sumP (X i) (RL i):Nat):Int)≤(m:Int) by omega)
 grind
theorem normK_w (B:Option Addr) (n:Nat) (n2:n≤24) (x:Nat→Nat→Rat) (W:World) (V:SqH W B n x) :
   Calls Tryz.prog 21 #[.slice B n n] W fun e w'=>(∃u,e=.returned (.float .f64 u)∧RoomK n x u)∧Below W.heap.size W w':=by
 obtain⟨RA,RC,X,V,hx⟩:=V.rws n2
 exact (norm_w B n n RA _ RC X (by omega) W V).mono fun e w' ⟨a,b⟩=>⟨⟨_,a,(norm_am _ X n).lt,fun v e hv=>norm_roomK (RL:=fun _=>n) hx e hv⟩,b⟩
theorem roomK_w (n u:Nat) (x:Nat→Nat→Rat) (W:World) (h:RoomK n x u) :
   Calls Tryz.prog 20 #[.float .f64 4607182418800017408,.float .f64 u,.int .i64 (-1)] W fun e w'=>(∃v,e=.returned (.float .f64 v)∧v<18446744073709551616∧((FloatKind.f64.format.order v 0==some .gt)=true→0<key v∧finB v=true∧∀i,i<n→sumQ (fun c=>absQ (x i c)) n≤1-vq (key v)))∧Below W.heap.size W w':=by
 refine (sub_w 4607182418800017408 u (-1) (by omega) h.1 W).mono fun e w' ⟨⟨r,a,b,m⟩,d⟩=>⟨⟨r,a,b,fun g=>?_⟩,d⟩
 have o:=order_eq r 0 b (by omega)
 have k0:key 0=0:=by decide
 have n0:nanB 0=false:=by decide
 rw [n0,k0] at o
 cases e1:addR 4607182418800017408 (negB u) (-1)
 · rw [e1] at m
   have m2:nanB r=true:=m
   rw [m2] at o
   rw [o] at g
   cases g
 · rename_i v
   rw [e1] at m
   obtain rfl:r=v:=m
   cases nn:nanB r
   · rw [nn] at o
     simp only [Bool.or_self,Bool.false_eq_true,if_false] at o
     rw [o] at g
     rw [beq_iff_eq,Option.some.injEq] at g
     have kp:=Int.compare_eq_gt.1 g
     obtain⟨q1,q2⟩:=h.2 r e1 kp
     exact⟨kp,fin_two b nn q1 (by omega),q2⟩
   · rw [nn] at o
     rw [o] at g
     cases g
theorem inv_exists {n:Nat} (n1:1≤n) {R B:Nat→Nat→Rat} {v:Nat} (hk:0<key v) (hE:∀i,i<n→sumQ (fun c=>absQ (lessQ oneQ (prodQ n R B) i c)) n≤1-vq (key v)) :
   ∃Y:Nat→Nat→Rat,(∀r,r<n→∀c,c<n→prodQ n B Y r c=oneQ r c)∧∀i,i<n→∀j,j<n→R i j+prodQ n (lessQ oneQ (prodQ n R B)) Y i j=Y i j:=by
 have t:=vq_pos hk
 have reg:RegG n B:=fun u hu c hc=>regular (n:=n) (R:=R) (B:=B) (fun i hi=>by have:=hE i hi;show sumQ (fun c=>absQ (lessQ oneQ (prodQ n R B) i c)) n<1;grind) hu c hc
 have ex:∀j,∃y:Nat→Rat,j<n→∀r,r<n→sumQ (fun c=>B r c*y c) n=oneQ r j:=fun j=>by
   by_cases hj:j<n
   · obtain⟨y,hy⟩:=reg_sol reg hj
     exact⟨y,fun _=>hy⟩
   · exact⟨fun _=>0,fun h=>absurd h hj⟩
 have _:=n1
 refine⟨fun i j=>(ex j).choose i,fun r hr c hc=>(ex c).choose_spec hc r hr,fun i hi j hj=>?_⟩
 exact sol_fix hj ((ex j).choose_spec hj) hi
theorem reg_room {n:Nat} {X:Nat→Nat→Nat} {P Q:Nat→Int} {R:Nat→Nat→Rat} {v:Nat} (hk:0<key v) (hE:∀i,i<n→sumQ (fun c=>absQ (lessQ oneQ (prodQ n R (sclQ X P Q)) i c)) n≤1-vq (key v)):RegQ n X:=by
 have t:=vq_pos hk
 refine reg_of (P:=P) (Q:=Q) (R:=R) fun i hi=>?_
 have:=hE i hi
 grind
theorem inv_of {n:Nat} {X:Nat→Nat→Nat} {P Q:Nat→Int} {Y:Nat→Nat→Rat} (h:∀r,r<n→∀c,c<n→prodQ n (sclQ X P Q) Y r c=oneQ r c):InvOf n X (fun r c=>Y r c*twQ (-(Q r)-P c)):=by
 intro r hr c hc
 have e:∀k,vq (key (X r k))*(Y k c*twQ (-(Q k)-P c))=twQ (P r-P c)*(sclQ X P Q r k*Y k c):=fun k=>by
   unfold sclQ
   have a:=twQ_add (-(P r)-Q k) (P r-P c)
   rw [show -(P r)-Q k+(P r-P c)=-(Q k)-P c by omega] at a
   rw [a]
   grind
 show sumQ (fun k=>vq (key (X r k))*(Y k c*twQ (-(Q k)-P c))) n=oneQ r c
 rw [sumQ_congr (fun k _=>e k),sumQ_mul]
 have:=h r hr c hc
 unfold prodQ at this
 rw [this]
 unfold oneQ
 by_cases q:r=c
 · subst q
   have:twQ (P r-P r)=1:=by
     rw [show P r-P r=0 by omega]
     have:=twQ_add 0 0
     have p:=twQ_pos 0
     rw [show (0:Int)+0=0 from rfl] at this
     have i:=Rat.mul_inv_cancel (twQ 0) (by grind)
     grind
   rw [this,if_pos rfl]
   grind
 · rw [if_neg q]
   grind
theorem balls_sqH (A:Option Addr) (n room:Nat) (n1:1≤n) (n2:n≤24) (R E Y:Nat→Nat→Rat) (hroom:room<18446744073709551616) (hk:0<key room) (fr:finB room=true) (hY:∀i,i<n→∀j,j<n→R i j+prodQ n E Y i j=Y i j) (hE:∀i,i<n→sumQ (fun c=>absQ (E i c)) n≤1-vq (key room)) (w:World) (V:SqH w A n R) :
   Calls Tryz.prog 22 #[.slice A n n,.float .f64 room] w fun e w'=>(∃C,e=.returned (.slice C n n)∧SqH w' C n Y)∧Below w.heap.size w w':=by
 obtain⟨RA,RC,X,V,hx⟩:=V.rws n2
 have _:=n1
 refine (ballsH_w A n n room RA _ RC X n2 (fun _ _=>rfl) hroom w V Y fun j hj=>?_).mono fun _ _ ⟨g,h,F,a,b,c,d⟩=>⟨⟨_,a,g,h,F,rfl,b,c⟩,d⟩
 have am:=gm_am (fun r=>X r j) n
 have up:=gm_up (fun r=>X r j) (fun r=>R r j) n (fun r hr=>hx r hr j hj)
 generalize gmP (fun r=>X r j) n=a at *
 have zb:isZ room=false:=by
   cases z:isZ room
   · rfl
   · have:=(key_zero hroom).1 z;omega
 obtain⟨d,hd⟩:∃d,divR a room 1=some d:=by
   unfold divR
   rw [am.num,fin_not_nan fr,zb,fr]
   cases finB a <;> exact⟨_,rfl⟩
 refine⟨d,hd,fun i hi=>div_ball am hroom fr hk hd ?_⟩
 by_cases ai:a=9218868437227405312
 · exact Or.inl ai
 · refine Or.inr ?_
   exact sol_bound (n:=n) (E:=E) (y:=fun i=>Y i j) (R:=fun i=>R i j) (vq_pos hk) hE (fun i hi=>(up i hi).resolve_left ai) (fun i hi=>hY i hi j hj) hi
def InvSqH (n:Nat) (X:Nat→Nat→Nat) (e:Ending) (w':World):Prop:=∃B L er,e=.returned (.tuple #[.slice B L L,.int .i64 er])∧((er=40∧L=0)∨(er=0∧n=L∧∃Z,SqH w' B n Z∧InvOf n X Z∧RegQ n X))
set_option maxRecDepth 4000 in
set_option maxHeartbeats 16000000 in
theorem inverseH_good (A:Option Addr) (n C:Nat) (RA:Nat→Option Addr) (RL RC:Nat→Nat) (X:Nat→Nat→Nat) (n1:1≤n) (n2:n≤24) (hf:fltB n RL X=true) (hR:RL 0=n) (w:World) (V:Rfs w A n RA RL RC X)
   (c1:Calls Tryz.prog 11 #[.slice A n C] w fun e w'=>e=.returned (.bool true)∧Below w.heap.size w w')
   (c2:∀W,Below w.heap.size w W→Calls Tryz.prog 12 #[.slice A n C] W fun e w'=>SclAns n e w'∧Below W.heap.size W w') :
   Calls Tryz.prog 4 #[.slice A n C] w fun e w'=>InvSqH n X e w'∧Below w.heap.size w w':=by
 have c3:∀W gr gc P Q,Below w.heap.size w W→Pws W (some ⟨gr,0,none⟩) n P→Pws W (some ⟨gc,0,none⟩) n Q→Calls Tryz.prog 13 #[.agg #[.slice (some ⟨gr,0,none⟩) n n,.slice (some ⟨gc,0,none⟩) n n],.slice A n C] W fun e w'=>(∃B,e=.returned (.slice B n n)∧SqH w' B n (sclQ X P Q))∧Below W.heap.size W w':=fun W gr gc P Q hW p q =>
   (scaledH_w A _ _ n C n n RA RL RC X P Q hf hR W (V.keep hW) p q).mono fun e w' ⟨g,h,F,a,b,c,d⟩=>⟨⟨_,a,g,h,F,rfl,b,c⟩,d⟩
 have c4:∀W B,Sq W B n→Calls Tryz.prog 16 #[.slice B n n] W fun e w'=>(∃g h,e=.returned (.slice (some ⟨g,0,none⟩) n n)∧Tab W.heap.size w' g n n h)∧Below W.heap.size W w':=fun W B V=>by
   obtain⟨RA,RC,X,V⟩:=V.rws n2
   exact (middles_w B n n n RA _ RC X n2 n1 n2 n1 (fun _ _=>rfl) W V).mono fun e w' ⟨g,h,a,b,_,d⟩=>⟨⟨g,h,a,b⟩,d⟩
 have c5:=fun W B x=>normK_w B n n2 x W
 have c6:=fun W u x=>roomK_w n u x W
 have c7:∀W B gr gc P Q Y,SqH W B n Y→Pws W (some ⟨gr,0,none⟩) n P→Pws W (some ⟨gc,0,none⟩) n Q→Calls Tryz.prog 24 #[.agg #[.slice (some ⟨gr,0,none⟩) n n,.slice (some ⟨gc,0,none⟩) n n],.slice B n n] W fun e w'=>(∃C,e=.returned (.slice C n n)∧SqH w' C n (fun r c=>Y r c*twQ (-(Q r)-P c)))∧Below W.heap.size W w':=fun W B gr gc P Q Y V p q=>by
   obtain⟨RA,RC,X,V,hx⟩:=V.rws n2
   exact (backH_w B _ _ n n n n RA _ RC X Y P Q n2 n1 (fun _ _=>rfl) W V hx p q).mono fun e w' ⟨g,h,F,a,b,c,d⟩=>⟨⟨_,a,g,h,F,rfl,b,c⟩,d⟩
 have eqn:∀(w:World) (a:Option Addr) (n c n' c':Nat),(binOp .eql 23 (.slice a n c) (.slice none n' c')).run Tryz.prog w=.ok (.bool a.isNone) w:=fun w a n c n' c'=>Go.Lib.run_eql_slice_nil w _ _ a n c n' c' Tryz.underlying23
 have npH:=fun W B D x y=>prod_sqH B D n n1 n2 x y W
 have nlH:=fun W B D x y=>less_sqH B D n n1 n2 x y W
 have noH:=fun W=>one_sqH n n1 n2 W
 have nuH:=fun W B D x y=>plus_sqH B D n n1 n2 x y W
 have nb:=fun W B room R E Y hr hk hf hY hE=>balls_sqH B n room n1 n2 R E Y hr hk hf hY hE W
 clear V hf hR
 go_enter Tryz.func4,Tryz.ntmps4
 go_upto_region 3 with (go_at_call 11;(with_reducible refine c1.mono ?_);rintro _ W1 ⟨rfl,HB⟩)
 go_upto_region 4 with (go_at_call 12;(with_reducible refine (c2 _ HB).mono ?_);rintro _ W2 ⟨⟨A1,l1,k1,A2,l2,k2,ok,rfl,hok⟩,hb2⟩;replace HB:=later HB hb2;clear hb2)
 cases ok
 · go_wp2_with fail
   refine bodyPost_ret (v:=.tuple #[.slice none 0 0,.int .i64 40]) (by simp [results,Tryz.results4,go_sem]) rfl ⟨⟨none,0,40,rfl,Or.inl ⟨rfl,rfl⟩⟩,below_alloc HB _⟩
 obtain⟨gr,gc,P,Q,rfl,rfl,rfl,rfl,rfl,rfl,hP,hQ⟩:=hok rfl
 have S:=has2_new W2 (.slice (some ⟨gr,0,none⟩) n n) (.slice (some ⟨gc,0,none⟩) n n) 39
 have hb3:Below W2.heap.size W2 (W2.alloc (.cells #[.slice (some ⟨gr,0,none⟩) n n,.slice (some ⟨gc,0,none⟩) n n] 39)):=by go_grown
 replace HB:=later HB hb3;replace hP:=hP.keep hb3;replace hQ:=hQ.keep hb3
 clear hb3 hok c1 c2
 generalize W2.alloc (.cells #[.slice (some ⟨gr,0,none⟩) n n,.slice (some ⟨gc,0,none⟩) n n] 39)=W3 at *
 generalize W2.heap.size=sb at *
 obtain⟨s0,s1,s2,s3,s4⟩:=id S
 go_upto_region 8 with (first
   | (go_at_call 13;(with_reducible refine (c3 _ _ _ _ _ HB hP hQ).mono ?_);rintro _ W4 ⟨⟨Bb,rfl,Sb⟩,hb1⟩;replace HB:=later HB hb1;replace S:=S.keep hb1;replace hP:=hP.keep hb1;replace hQ:=hQ.keep hb1;clear hb1 s0 s1 s2 s3 s4;obtain⟨s0,s1,s2,s3,s4⟩:=id S)
   | (go_at_call 16;(with_reducible refine (c4 _ _ Sb.sq).mono ?_);rintro _ W5 ⟨⟨gm,hm,rfl,Tm⟩,hb1⟩;replace HB:=later HB hb1;replace S:=S.keep hb1;replace hP:=hP.keep hb1;replace hQ:=hQ.keep hb1;replace Sb:=Sb.keep hb1;clear hb1 s0 s1 s2 s3 s4;obtain⟨s0,s1,s2,s3,s4⟩:=id S)
   | (go_at_call 15;(with_reducible refine (near_nr _ _ _ _ n2 _ Tm).mono ?_);rintro _ W6 ⟨⟨An,ln,Cn,rfl,Nn⟩,hb1⟩;replace HB:=later HB hb1;replace S:=S.keep hb1;replace hP:=hP.keep hb1;replace hQ:=hQ.keep hb1;replace Sb:=Sb.keep hb1;clear hb1 s0 s1 s2 s3 s4;obtain⟨s0,s1,s2,s3,s4⟩:=id S)
   | (go_at_call 14;(with_reducible refine (pts_nrH _ _ _ _ n2 _ Nn).mono ?_);rintro _ W7 ⟨⟨Ap,lp,Cp,rfl,hp⟩,hb1⟩;replace HB:=later HB hb1;replace S:=S.keep hb1;replace hP:=hP.keep hb1;replace hQ:=hQ.keep hb1;replace Sb:=Sb.keep hb1;clear hb1 s0 s1 s2 s3 s4;obtain⟨s0,s1,s2,s3,s4⟩:=id S))
 rcases hp with ⟨rfl,rfl,rfl⟩ | ⟨rfl,rfl,R,Sr⟩
 · go_wp2_with fail
   refine bodyPost_ret (v:=.tuple #[.slice none 0 0,.int .i64 40]) (by simp [results,Tryz.results4,go_sem]) rfl ⟨⟨none,0,40,rfl,Or.inl ⟨rfl,rfl⟩⟩,HB⟩
 obtain⟨gq,eq⟩:∃gq,Ap=some ⟨gq,0,none⟩:=by obtain⟨g,_,_,e,_⟩:=Sr;exact⟨g,e⟩
 subst eq
 go_upto_region 12 with (first
   | (go_at_call 18;(with_reducible refine (noH _).mono ?_);rintro _ W8 ⟨⟨Bo,rfl,So⟩,hb1⟩;replace HB:=later HB hb1;replace S:=S.keep hb1;replace hP:=hP.keep hb1;replace hQ:=hQ.keep hb1;replace Sb:=Sb.keep hb1;replace Sr:=Sr.keep hb1;clear hb1 s0 s1 s2 s3 s4;obtain⟨s0,s1,s2,s3,s4⟩:=id S)
   | (go_at_call 19;(with_reducible refine (npH _ _ _ _ _ Sr Sb).mono ?_);rintro _ W9 ⟨⟨Bp,rfl,Sp⟩,hb1⟩;replace HB:=later HB hb1;replace S:=S.keep hb1;replace hP:=hP.keep hb1;replace hQ:=hQ.keep hb1;replace So:=So.keep hb1;replace Sr:=Sr.keep hb1;clear hb1 s0 s1 s2 s3 s4;obtain⟨s0,s1,s2,s3,s4⟩:=id S)
   | (go_at_call 17;(with_reducible refine (nlH _ _ _ _ _ So Sp).mono ?_);rintro _ Wa ⟨⟨Be,rfl,Se⟩,hb1⟩;replace HB:=later HB hb1;replace S:=S.keep hb1;replace hP:=hP.keep hb1;replace hQ:=hQ.keep hb1;replace Sr:=Sr.keep hb1;clear hb1 s0 s1 s2 s3 s4;obtain⟨s0,s1,s2,s3,s4⟩:=id S)
   | (go_at_call 21;(with_reducible refine (c5 _ _ _ Se).mono ?_);rintro _ Wb ⟨⟨u,rfl,hu⟩,hb1⟩;replace HB:=later HB hb1;replace S:=S.keep hb1;replace hP:=hP.keep hb1;replace hQ:=hQ.keep hb1;replace Sr:=Sr.keep hb1;replace Se:=Se.keep hb1;clear hb1 s0 s1 s2 s3 s4;obtain⟨s0,s1,s2,s3,s4⟩:=id S)
   | (go_at_call 20;(with_reducible refine (c6 _ _ _ hu).mono ?_);rintro _ Wc ⟨⟨v,rfl,hv,hroom⟩,hb1⟩;replace HB:=later HB hb1;replace S:=S.keep hb1;replace hP:=hP.keep hb1;replace hQ:=hQ.keep hb1;replace Sr:=Sr.keep hb1;replace Se:=Se.keep hb1;clear hb1 s0 s1 s2 s3 s4;obtain⟨s0,s1,s2,s3,s4⟩:=id S))
 have hg:(FloatKind.f64.format.order v 0==some .gt)=true∨(FloatKind.f64.format.order v 0==some .gt)=false:=by cases (FloatKind.f64.format.order v 0==some .gt) <;> simp
 rcases hg with hg | hg
 case inr =>
   go_wp2_with fail
   refine bodyPost_ret (v:=.tuple #[.slice none 0 0,.int .i64 40]) (by simp [results,Tryz.results4,go_sem]) rfl ⟨⟨none,0,40,rfl,Or.inl ⟨rfl,rfl⟩⟩,HB⟩
 obtain⟨hk,hfv,hE⟩:=hroom hg
 obtain⟨Y,hYB,hYf⟩:=inv_exists n1 hk hE
 have REG:Hid (InvOf n X (fun r c=>Y r c*twQ (-(Q r)-P c))):=inv_of hYB
 have REG2:Hid (RegQ n X):=reg_room hk hE
 have HF:Hid (∀i,i<n→∀j,j<n→R i j+prodQ n (lessQ oneQ (prodQ n R (sclQ X P Q))) Y i j=Y i j):=hYf
 clear hroom hu nlH noH
 go_wp2_with (go_at_call 22;(with_reducible refine (nb _ _ _ _ _ _ hv hk hfv hYf hE Sr).mono ?_);rintro _ Wd ⟨⟨Bx,rfl,Sx⟩,hb1⟩;replace HB:=later HB hb1;replace S:=S.keep hb1;replace hP:=hP.keep hb1;replace hQ:=hQ.keep hb1;replace Sr:=Sr.keep hb1;replace Se:=Se.keep hb1;clear hb1 s0 s1 s2 s3 s4;obtain⟨s0,s1,s2,s3,s4⟩:=id S)
 clear s0 s1 s2 s3 s4 hE hYB hYf hk hfv hg nb
 generalize lessQ oneQ (prodQ n R (sclQ X P Q))=EE at *
 go_loopg [10,46] 2 (fun G s10 s46 wx=>Below w.heap.size w wx∧Has2 wx sb (.slice (some ⟨gr,0,none⟩) n n) (.slice (some ⟨gc,0,none⟩) n n)∧Pws wx (some ⟨gr,0,none⟩) n P∧Pws wx (some ⟨gc,0,none⟩) n Q∧SqH wx (some ⟨gq,0,none⟩) n R∧SqH wx Be n EE∧∃(i:Nat) (Bx:Option Addr),i+G=2∧s46=.int .i64 (i:Int)∧s10=.slice Bx n n∧SqH wx Bx n Y)
 case atStart=>exact⟨HB,S,hP,hQ,Sr,Se,0,_,by omega,rfl,rfl,Sx⟩
 case round =>
   clear HB S hP hQ Sr Se Sx
   obtain⟨HB,S,hP,hQ,Sr,Se,i,By,hi,rfl,rfl,Sx⟩:=hrel
   by_cases ci:i=2
   · subst ci
     obtain⟨s0,s1,s2,s3,s4⟩:=id S
     go_wp2_with (go_at_call 24;(with_reducible refine (c7 _ _ _ _ _ _ _ Sx hP hQ).mono ?_);rintro _ We ⟨⟨Bz,rfl,Sz⟩,hb1⟩;replace HB:=later HB hb1)
     refine bodyPost_ret (v:=.tuple #[.slice Bz n n,.int .i64 0]) (by simp [results,Tryz.results4,go_sem]) rfl ⟨⟨Bz,n,0,rfl,Or.inr ⟨rfl,rfl,_,Sz,REG.out,REG2.out⟩⟩,HB⟩
   · have hlt:(i:Int)<2:=by omega
     go_wp2_with (first
       | (go_at_call 19;(with_reducible refine (npH _ _ _ _ _ Se Sx).mono ?_);rintro _ We ⟨⟨Bp2,rfl,Sp2⟩,hb1⟩;replace HB:=later HB hb1;replace S:=S.keep hb1;replace hP:=hP.keep hb1;replace hQ:=hQ.keep hb1;replace Sr:=Sr.keep hb1;replace Se:=Se.keep hb1;clear hb1)
       | (go_at_call 23;(with_reducible refine (nuH _ _ _ _ _ Sr Sp2).mono ?_);rintro _ Wf ⟨⟨Bq,rfl,Sq2⟩,hb1⟩;replace HB:=later HB hb1;replace S:=S.keep hb1;replace hP:=hP.keep hb1;replace hQ:=hQ.keep hb1;replace Sr:=Sr.keep hb1;replace Se:=Se.keep hb1;clear hb1))
     go_roundg (2-i-1)
     case measure=>omega
     case rel=>exact⟨HB,S,hP,hQ,Sr,Se,i+1,_,by omega,by go_num,rfl,Sq2.congr HF.out⟩
theorem inverseSqH_w (A:Option Addr) (n C:Nat) (RA:Nat→Option Addr) (RL RC:Nat→Nat) (X:Nat→Nat→Nat) (hf:fltB n RL X=true) (hR:n=RL 0) (w:World) (V:Rfs w A n RA RL RC X) :
   Calls Tryz.prog 4 #[.slice A n C] w fun e w'=>InvSqH n X e w'∧Below w.heap.size w w':=by
 obtain⟨m1,m2,m3,m4,m5⟩:=fltB_parts hf
 have c1:=square_w A n C RA RL RC X (by omega) w V
 rw [hf,decide_eq_true hR] at c1
 refine inverseH_good A n C RA RL RC X m1 m2 hf hR.symm w V c1 fun W hW=>?_
 refine scalesOf_w A n C RA RL RC X m1 m2 (fun r hr=>by rw [m3 r hr,←hR]) (fun r hr c hc=>?_) W (V.keep hW)
 unfold fltB at hf
 simp only [Bool.and_eq_true] at hf
 have q:=all_upto.1 hf.1 r hr
 unfold rowFB at q
 simp only [Bool.and_eq_true] at q
 exact all_upto.1 q.2 c (by rw [m3 r hr,←hR];exact hc)
theorem inverseBad_w (A:Option Addr) (n C:Nat) (RA:Nat→Option Addr) (RL RC:Nat→Nat) (X:Nat→Nat→Nat) (hN:n≤9223372036854775807) (hq:(fltB n RL X&&decide (n=RL 0))=false) (w:World) (V:Rfs w A n RA RL RC X) :
   Calls Tryz.prog 4 #[.slice A n C] w fun e w'=>e=.returned (.tuple #[.slice none 0 0,.int .i64 1])∧Below w.heap.size w w':=by
 have c1:=square_w A n C RA RL RC X hN w V
 rw [hq] at c1
 go_enter Tryz.func4,Tryz.ntmps4
 go_wp2_with (go_at_call 11;(with_reducible refine c1.mono ?_);rintro _ W1 ⟨rfl,HB⟩)
 refine bodyPost_ret (v:=.tuple #[.slice none 0 0,.int .i64 1]) (by simp [results,Tryz.results4,go_sem]) rfl ⟨rfl,HB⟩
def InvG (n:Nat) (a z:Nat→Nat→Rat):Prop:=∀r,r<n→∀c,c<n→prodQ n a z r c=oneQ r c
theorem InvOf.g {n:Nat} {X:Nat→Nat→Nat} {Z:Nat→Nat→Rat} (h:InvOf n X Z):InvG n (fun r c=>vq (key (X r c))) Z:=h
theorem cof_1 {a z:Nat→Nat→Rat} (h:InvG 1 a z):z 0 0*a 0 0=1:=by
 have:=h 0 (by omega) 0 (by omega)
 unfold prodQ oneQ at this
 rw [if_pos rfl] at this
 have e:sumQ (fun k=>a 0 k*z k 0) 1=0+a 0 0*z 0 0:=rfl
 rw [e] at this
 grind
theorem two_rows {a z:Nat→Nat→Rat} (h:InvG 2 a z) (j:Nat) (hj:j<2):a 0 0*z 0 j+a 0 1*z 1 j=oneQ 0 j∧a 1 0*z 0 j+a 1 1*z 1 j=oneQ 1 j:=by
 have h0:=h 0 (by omega) j hj
 have h1:=h 1 (by omega) j hj
 unfold prodQ at h0 h1
 rw [sumQ_2] at h0 h1
 exact⟨h0,h1⟩
theorem cof_2 {a z:Nat→Nat→Rat} (h:InvG 2 a z) (j:Nat) (hj:j<2):z 0 j*det2Q a=a 1 1*oneQ 0 j-a 0 1*oneQ 1 j∧z 1 j*det2Q a=a 0 0*oneQ 1 j-a 1 0*oneQ 0 j:=by
 obtain⟨h0,h1⟩:=two_rows h j hj
 unfold det2Q
 rw [←h0,←h1]
 constructor <;> grind
theorem three_rows {a z:Nat→Nat→Rat} (h:InvG 3 a z) (j:Nat) (hj:j<3):a 0 0*z 0 j+a 0 1*z 1 j+a 0 2*z 2 j=oneQ 0 j∧a 1 0*z 0 j+a 1 1*z 1 j+a 1 2*z 2 j=oneQ 1 j∧a 2 0*z 0 j+a 2 1*z 1 j+a 2 2*z 2 j=oneQ 2 j:=by
 have h0:=h 0 (by omega) j hj
 have h1:=h 1 (by omega) j hj
 have h2:=h 2 (by omega) j hj
 unfold prodQ at h0 h1 h2
 rw [sumQ_3] at h0 h1 h2
 exact⟨h0,h1,h2⟩
theorem cof_3 {a z:Nat→Nat→Rat} (h:InvG 3 a z) (j:Nat) (hj:j<3) :
   z 0 j*det3Q a=(a 1 1*a 2 2-a 1 2*a 2 1)*oneQ 0 j-(a 0 1*a 2 2-a 0 2*a 2 1)*oneQ 1 j+(a 0 1*a 1 2-a 0 2*a 1 1)*oneQ 2 j ∧
   z 1 j*det3Q a=(a 0 0*a 2 2-a 0 2*a 2 0)*oneQ 1 j-(a 1 0*a 2 2-a 1 2*a 2 0)*oneQ 0 j-(a 0 0*a 1 2-a 0 2*a 1 0)*oneQ 2 j ∧
   z 2 j*det3Q a=(a 1 0*a 2 1-a 1 1*a 2 0)*oneQ 0 j-(a 0 0*a 2 1-a 0 1*a 2 0)*oneQ 1 j+(a 0 0*a 1 1-a 0 1*a 1 0)*oneQ 2 j:=by
 obtain⟨h0,h1,h2⟩:=three_rows h j hj
 unfold det3Q
 rw [←h0,←h1,←h2]
 refine⟨?_, ?_, ?_⟩ <;> grind
end Go.Proofs.YtlabmpngbcnhpaaGreat
