/- A regular matrix has an inverse; balls hold it where what is left of a near inverse is small. lin's balls, and what is scaled back: what their intervals hold. -/
import Derived.Test.YtlabmpngbcnhpaaGreatZi39
namespace Go.Proofs.YtlabmpngbcnhpaaGreat
open Go.ChangeShapes Go.WideShapes Go.ChangeAt Go.RowKit
theorem ball_hq {d:Nat} {y:Rat} (hd:d<18446744073709551616) (nd:nanB d=false) (k0:0≤key d) (h:key d=9218868437227405312∨absQ y≤vq (key d)):Hq (makeP (negB d) d) y:=by
 have kr:=key_range hd nd
 have kn:=key_negB hd
 have hs:hsB (pz (negB d)) (pz d)=true:=by
   refine hs_iff.2 ⟨by rw [nan_pz,nanB_negB hd];exact nd,by rw [nan_pz];exact nd,by rw [key_pz,key_pz];omega,by rw [key_pz];omega,by rw [key_pz];omega,pz_ne _,pz_ne d⟩
 have e:makeP (negB d) d=(pz (negB d),pz d):=by unfold makeP;rw [hs];rfl
 rw [e]
 refine⟨pz_lt (negB_lt hd),pz_lt hd,hs_iff.1 hs, ?_, ?_⟩
 · show LoQ (key (pz (negB d))) y
   rw [key_pz,kn]
   rcases h with h | h
   · exact Or.inl (by omega)
   · refine Or.inr ?_
     rw [vq_neg]
     have:=absQ_le.1 h
     grind
 · show LoQ (-key (pz d)) (-y)
   rw [key_pz]
   rcases h with h | h
   · exact Or.inl (by omega)
   · refine Or.inr ?_
     rw [vq_neg]
     have:=absQ_le.1 h
     grind
theorem div_up {a b:Nat} (ha:a<18446744073709551616) (hb:b<18446744073709551616) (fa:finB a=true) (fb:finB b=true) (kb:0<key b) :
   key (divF a b 1)=9218868437227405312∨vq (key a)≤vq (key (divF a b 1))*vq (key b):=by
 obtain⟨u,hu⟩:∃u:Nat,u=1075:=⟨_,rfl⟩
 have zb:isZ b=false:=by
   cases z:isZ b
   · rfl
   · have:=(key_zero hb).1 z;omega
 have fb':finB (negB b)=true:=by rw [finB_negB hb];exact fb
 have zb':isZ (negB b)=false:=by rw [isZ_negB hb];exact zb
 have bl:b<9223372036854775808:=by
   unfold key at kb
   split at kb <;> omega
 have sg:splitG (negB b)=true:=by
   rw [splitG_negB hb (splitM_zero zb)]
   unfold splitG
   simp
   omega
 have vb:(val (negB b%9223372036854775808):Int)=V (key b):=by
   rw [mod_negB hb,Nat.mod_eq_of_lt bl,←V_nat]
   unfold key
   rw [if_pos bl]
 have m:=div_mirror hb fa fb zb
 have h:=down_le (divF_down hu ha fa fb' zb')
 rw [sg] at h
 simp only [if_true] at h
 rw [vb] at h
 rcases h with h | h
 · exact Or.inl (by omega)
 · refine Or.inr ?_
   rw [show key (divF a (negB b) (-1))=-key (divF a b 1) by omega,V_neg] at h
   have e:((2^u:Nat):Int)=2*(unitN:Int):=by
     have:2^u=2*unitN:=by unfold unitN;rw [show u=expN+1 by rw [hu];rfl,Nat.pow_succ']
     omega
   rw [e] at h
   have h1:V (key a)*(unitN:Int)≤V (key (divF a b 1))*V (key b):=by
     have e1:2 * -V (key (divF a b 1))*V (key b)=-(2*(V (key (divF a b 1))*V (key b))):=by
       rw [Int.mul_neg,Int.neg_mul,Int.mul_assoc]
     have e2:-V (key a)*(2*(unitN:Int))=-(2*(V (key a)*(unitN:Int))):=by
       rw [Int.neg_mul,Int.mul_left_comm]
     rw [e1,e2] at h
     omega
   clear hu e h
   have i0:=iuQ_pos
   have i1:=iuQ_one
   have h2:=Rat.mul_le_mul_of_nonneg_right (Rat.intCast_le_intCast.2 h1) (Rat.mul_nonneg (Rat.le_of_lt i0) (Rat.le_of_lt i0))
   rw [Rat.intCast_mul,Rat.intCast_mul] at h2
   unfold vq
   generalize (V (key (divF a b 1)):Rat)=R at *
   generalize (V (key a):Rat)=A at *
   generalize (V (key b):Rat)=B at *
   generalize ((unitN:Int):Rat)=U at *
   generalize iuQ=i at *
   have e3:A*U*(i*i)=A*i:=by grind
   have e4:R*B*(i*i)=R*i*(B*i):=by grind
   rw [e3,e4] at h2
   exact h2
theorem vq_pos {k:Int} (h:0<k):0<vq k:=by have:=vq_lt h;rw [vq_zero] at this;exact this
theorem div_ball {a b d:Nat} {y:Rat} (ha:Am a) (hb:b<18446744073709551616) (fb:finB b=true) (kb:0<key b) (e:divR a b 1=some d) (h:a=9218868437227405312∨absQ y*vq (key b)≤vq (a:Int)):Hq (makeP (negB d) d) y:=by
 have zb:isZ b=false:=by
   cases z:isZ b
   · rfl
   · have:=(key_zero hb).1 z;omega
 have ka:=key_am ha
 cases fa:finB a
 · have ai:a=9218868437227405312:=by
     rcases (key_inf ha.lt ha.num).1 fa with c | c <;> unfold Am at ha <;> omega
   have bl:signB b=false:=by
     unfold key at kb
     unfold signB
     simp
     split at kb <;> omega
   unfold divR at e
   rw [ha.num,fin_not_nan fb,zb,fa,fb,bl,ai] at e
   have:d=9218868437227405312:=by
     have e2:some 9218868437227405312=some d:=e
     exact (Option.some.inj e2).symm
   subst this
   exact ball_hq (by omega) (by decide) (by decide) (Or.inl (by decide))
 · rw [divR_fin 1 fa fb zb] at e
   obtain rfl:=Option.some.inj e
   obtain⟨f1,f2,f3⟩:=divF_facts (a:=a) (b:=b) 1 zb
   rcases h with c | c
   · subst c
     cases fa
   have bp:=vq_pos kb
   rcases div_up ha.lt hb fa fb kb with u | u
   · exact ball_hq f3 f1 (by omega) (Or.inl u)
   · rw [ka] at u
     have h2:absQ y*vq (key b)≤vq (key (divF a b 1))*vq (key b):=Rat.le_trans c u
     have h3:absQ y≤vq (key (divF a b 1)):=Rat.le_of_mul_le_mul_right h2 bp
     have k0:0≤key (divF a b 1):=by
       rcases Int.lt_or_le (key (divF a b 1)) 0 with o | o
       · have:=vq_lt o
         rw [vq_zero] at this
         have:=absQ_nonneg y
         grind
       · exact o
     exact ball_hq f3 f1 k0 (Or.inr h3)
theorem reg_sol {n:Nat} {b:Nat→Nat→Rat} (h:RegG n b) {j:Nat} (hj:j<n):∃y:Nat→Rat,∀r,r<n→sumQ (fun c=>b r c*y c) n=oneQ r j:=by
 obtain⟨v,⟨k,hk,kv⟩,hv⟩:=fewer (m:=n) (n:=n+1) (by omega) (fun r c=>if c=n then -(oneQ r j) else b r c)
 have hv':∀r,r<n→sumQ (fun c=>b r c*v c) n=oneQ r j*v n:=fun r hr=>by
   have:=hv r hr
   rw [sumQ,if_pos rfl,sumQ_congr (g:=fun c=>b r c*v c) (fun c hc=>by rw [if_neg (by omega)])] at this
   grind
 by_cases z:v n=0
 · exfalso
   have all:=h v (fun r hr=>by rw [hv' r hr,z];grind)
   by_cases kn:k=n
   · subst kn;exact kv z
   · exact kv (all k (by omega))
 · have i:=Rat.mul_inv_cancel (v n) z
   refine⟨fun c=>(v n)⁻¹*v c,fun r hr=>?_⟩
   rw [sumQ_congr (g:=fun c=>(v n)⁻¹*(b r c*v c)) (fun c _=>by grind),sumQ_mul,hv' r hr]
   grind
theorem sumQ_unit (f:Nat→Rat) {n k:Nat} (hk:k<n):sumQ (fun i=>f i*oneQ i k) n=f k:=by
 rw [←sumQ_one f hk]
 refine sumQ_congr fun i _=>?_
 unfold oneQ
 by_cases h:i=k
 · rw [if_pos h,if_pos h];grind
 · rw [if_neg h,if_neg h];grind
theorem sumQ_unit' (f:Nat→Rat) {n k:Nat} (hk:k<n):sumQ (fun i=>oneQ k i*f i) n=f k:=by
 rw [←sumQ_unit f hk]
 refine sumQ_congr fun i _=>?_
 unfold oneQ
 by_cases h:i=k
 · rw [if_pos h,if_pos h.symm];grind
 · rw [if_neg h,if_neg (fun q=>h q.symm)];grind
theorem sol_fix {n:Nat} {R B:Nat→Nat→Rat} {y:Nat→Rat} {j:Nat} (hj:j<n) (hy:∀r,r<n→sumQ (fun c=>B r c*y c) n=oneQ r j) {i:Nat} (hi:i<n) :
   R i j+sumQ (fun c=>lessQ oneQ (prodQ n R B) i c*y c) n=y i:=by
 have e1:sumQ (fun c=>lessQ oneQ (prodQ n R B) i c*y c) n=sumQ (fun c=>oneQ i c*y c) n-sumQ (fun c=>prodQ n R B i c*y c) n:=by
   rw [←sumQ_sub]
   exact sumQ_congr fun c _=>by unfold lessQ;grind
 have e2:sumQ (fun c=>prodQ n R B i c*y c) n=R i j:=by
   rw [sumQ_congr (g:=fun c=>sumQ (fun k=>R i k*(B k c*y c)) n) (fun c _=>?_),sumQ_swap,sumQ_congr (g:=fun k=>R i k*oneQ k j) (fun k hk=>?_),sumQ_unit _ hj]
   · rw [sumQ_mul,hy k hk]
   · unfold prodQ
     rw [Rat.mul_comm,←sumQ_mul]
     exact sumQ_congr fun k _=>by grind
 rw [e1,e2,sumQ_unit' _ hi]
 grind
theorem sol_bound {n:Nat} {E:Nat→Nat→Rat} {ρ t:Rat} {y R:Nat→Rat} (ht:0<t) (hE:∀i,i<n→sumQ (fun c=>absQ (E i c)) n≤1-t) (hR:∀i,i<n→absQ (R i)≤ρ)
   (hy:∀i,i<n→R i+sumQ (fun c=>E i c*y c) n=y i) {i:Nat} (hi:i<n):absQ (y i)*t≤ρ:=by
 obtain⟨g,hg,gm⟩:=greatest y n (by omega)
 have h1:absQ (y g)≤ρ+(1-t)*absQ (y g):=by
   have a:=absQ_add (R g) (sumQ (fun c=>E g c*y c) n)
   rw [hy g hg] at a
   have b:=sumQ_abs (fun c=>E g c*y c) n
   have c:sumQ (fun c=>absQ (E g c*y c)) n≤sumQ (fun c=>absQ (y g)*absQ (E g c)) n:=sumQ_le fun c hc=>by
     have m:=absQ_mul (E g c) (y c)
     have:=Rat.mul_le_mul_of_nonneg_left (gm c hc) (absQ_nonneg (E g c))
     grind
   rw [sumQ_mul] at c
   have d:=Rat.mul_le_mul_of_nonneg_left (hE g hg) (absQ_nonneg (y g))
   have r:=hR g hg
   grind
 have h2:=Rat.mul_le_mul_of_nonneg_right (gm i hi) (Rat.le_of_lt ht)
 grind
set_option maxHeartbeats 4000000 in
theorem backH_w (A SR SC:Option Addr) (N C kr kc:Nat) (RA:Nat→Option Addr) (RL RC:Nat→Nat) (X:Nat→Nat→Nat×Nat) (x:Nat→Nat→Rat) (P Q:Nat→Int) (hN:N≤24) (hN0:0<N) (hR:∀r,r<N→RL r=N) (w:World) (V:Rws w A N RA RL RC X) (hx:∀r,r<N→∀c,c<N→Hq (X r c) (x r c)) (U:Pws w SR N P) (T:Pws w SC N Q) :
   Calls Tryz.prog 24 #[.agg #[.slice SR N kr,.slice SC N kc],.slice A N C] w fun e w'=>∃g h F,e=.returned (.slice (some ⟨g,0,none⟩) N N)∧Grd w' g N N h F∧(∀r,r<N→∀c,c<N→Hq (F r c) (x r c*twQ (-(Q r)-P c)))∧Below w.heap.size w w':=by
 have HR:Hid (∀r,r<N→RL r=N):=hR
 have hxH:Hid (∀r,r<N→∀c,c<N→Hq (X r c) (x r c)):=hx
 clear hx
 have h4:(0:Int)<(N:Int):=by omega
 obtain⟨b,o,hA,hb, -, -, -⟩:=V 0 hN0
 obtain⟨sb,so,hSR, -⟩:=U 0 hN0
 obtain⟨tb,t0,hSC, -⟩:=T 0 hN0
 subst hA
 subst hSR
 subst hSC
 clear hR
 have cg:=fun w=>grid_w N N hN hN w
 go_enter Tryz.func24,Tryz.ntmps24
 go_wp2_with (go_at_call 41;refine (cg _).mono ?_;rintro _ w1 ⟨g,h,rfl,G0,hg,hh,hb0⟩)
 have HX:Hid (Has2 w1 w.heap.size (.slice (some ⟨sb,so,none⟩) N kr) (.slice (some ⟨tb,t0,none⟩) N kc)):=Has2.keep ⟨by go_simp,by go_simp,by go_simp,by go_simp,by go_size⟩ hb0
 have HB:Below w.heap.size w w1:=later (by go_grown) hb0
 have HH:Hid (∀r,r<N→w.heap.size<h r):=fun r hr=>by have:=hh r hr;simp only [World.size_alloc] at this;omega
 clear hb0 hg hh cg
 go_loopg [15] N (fun G s15 wx=>Below w.heap.size w wx∧∃(i:Nat) (F:Nat→Nat→Nat×Nat),i+G=N∧s15=.int .i64 (i:Int)∧Grd wx g N N h F∧Hid (Has2 wx w.heap.size (.slice (some ⟨sb,so,none⟩) N kr) (.slice (some ⟨tb,t0,none⟩) N kc))∧Hid (∀r,r<N→∀c,c<N→r<i→Hq (F r c) (x r c*twQ (-(Q r)-P c))))
 case atStart=>exact⟨HB,0,_,by omega,rfl,G0,HX,fun r _ c _ hr=>absurd hr (by omega)⟩
 case round =>
   clear HB G0 HX
   obtain⟨HB,i,F,hi,rfl,G0,HX,HF⟩:=hrel
   by_cases ci:i=N
   · subst ci
     go_wp2_with fail
     go_ret
     exact⟨g,h,F,rfl,G0,fun r hr c hc=>HF.out r hr c hc hr,HB⟩
   · have hlti:(i:Int)<(N:Int):=by omega
     obtain⟨b1,o1,hA1,lb1,v0, -,I⟩:=(V.keep HB) i (by omega)
     rw [HR.out i (by omega)] at v0 I
     simp only [Option.some.injEq,Addr.mk.injEq,and_true] at hA1
     obtain⟨rfl,rfl⟩:=hA1
     clear I
     go_wp2_with fail
     clear v0
     go_loopg [23] N (fun G s23 wy=>Below w.heap.size w wy∧∃(j:Nat) (F:Nat→Nat→Nat×Nat),j+G=N∧s23=.int .i64 (j:Int)∧Grd wy g N N h F∧Hid (Has2 wy w.heap.size (.slice (some ⟨sb,so,none⟩) N kr) (.slice (some ⟨tb,t0,none⟩) N kc))∧Hid (∀r,r<N→∀c,c<N→(r<i∨(r=i∧c<j))→Hq (F r c) (x r c*twQ (-(Q r)-P c))))
     case atStart=>exact⟨HB,0,F,by omega,rfl,G0,HX,fun r hr c hc q=>HF.out r hr c hc (by omega)⟩
     case round =>
       clear HB G0 HX HF F
       obtain⟨HB,j,F,hj,rfl,G0,HX,HF⟩:=hrel
       by_cases cj:j=N
       · subst cj
         go_wp2_with fail
         go_roundg (j-i-1)
         case measure=>omega
         case rel=>exact⟨HB,i+1,F,by omega,by go_num,G0,HX,fun r hr c hc q=>HF.out r hr c hc (by omega)⟩
       · have hltj:(j:Int)<(N:Int):=by omega
         obtain⟨b1,o1,hA1,lb1,v0, -,I⟩:=(V.keep HB) i (by omega)
         rw [HR.out i (by omega)] at v0 I
         simp only [Option.some.injEq,Addr.mk.injEq,and_true] at hA1
         obtain⟨rfl,rfl⟩:=hA1
         obtain⟨b3,o3,hA3,lb3,v1,v2,l1,l2⟩:=I j (by omega)
         rw [hA3] at v0
         obtain⟨b4,o4,hA4,lb4,u0,p1,p2⟩:=(U.keep HB) j (by omega)
         simp only [Option.some.injEq,Addr.mk.injEq,and_true] at hA4
         obtain⟨rfl,rfl⟩:=hA4
         obtain⟨b5,o5,hA5,lb5,y0,q1,q2⟩:=(T.keep HB) i (by omega)
         simp only [Option.some.injEq,Addr.mk.injEq,and_true] at hA5
         obtain⟨rfl,rfl⟩:=hA5
         obtain⟨x0,x1, -, -,x4⟩:=HX.out
         have cc:=fun w=>tp_w (X i j).1 (X i j).2 (-(Q i)-P j) l1 l2 (by omega) (by omega) w
         have tl:Hid (Hq (tpP ((X i j).1,(X i j).2) (-(Q i)-P j)) (x i j*twQ (-(Q i)-P j))):=hq_tp (hxH.out i (by omega) j (by omega)) _
         obtain⟨g0, -⟩:=G0.out.2 i (by omega)
         have gl:=G0.out.1
         clear I hA3
         have et:∃t,x i j*twQ (-(Q i)-P j)=t:=⟨_,rfl⟩
         obtain⟨tq,et⟩:=et
         rw [et] at tl
         have ET:Hid (x i j*twQ (-(Q i)-P j)=tq):=et
         clear et
         generalize tpP ((X i j).1,(X i j).2) (-(Q i)-P j)=z at cc tl
         generalize X i j=x at cc v1 v2 l1 l2
         generalize P j=pj at cc u0 p1 p2
         generalize Q i=qi at cc y0 q1 q2
         go_upto_region 8 with fail
         have k0:=fun n:Behind wr=>n.cell g0 gl
         have k1:=fun n:Behind wr=>n.cell v0 lb1
         have k2:=fun n:Behind wr=>n.cell v1 lb3
         have k3:=fun n:Behind wr=>n.cell v2 lb3
         have k4:=fun n:Behind wr=>n.cell u0 lb4
         have k5:=fun n:Behind wr=>n.cell y0 lb5
         have k6:=fun n:Behind wr=>n.cell x0 x4
         have k7:=fun n:Behind wr=>n.cell x1 x4
         refine tail_behind 25 (by kernel_rfl) (by kernel_rfl) ?_
         simp only [List.take_succ_cons,List.take_zero,List.drop_succ_cons,List.drop_zero]
         repeat (go_big_quiet_step (first
           | (go_at_call 40;with_reducible refine Behind.call (cc _))))
         refine wpQuiet_nil ?_
         rintro _ ⟨q,rfl⟩
         obtain⟨W,hb1⟩:=q
         dsimp only
         clear k0 k1 k2 k3 k4 k5 k6 k7 g0 gl v0 v1 v2 u0 y0 x0 x1 cc
         replace G0:=G0.keep hb1
         replace HB:=later HB hb1
         replace HX:Hid (Has2 W w.heap.size (.slice (some ⟨sb,so,none⟩) N kr) (.slice (some ⟨tb,t0,none⟩) N kc)):=HX.out.keep hb1
         clear hb1
         obtain⟨i0,i1,f0,f1⟩:=id ((G0.row i (by omega)).2 j (by omega))
         go_wp2_with fail
         go_roundg (N-j-1)
         case measure=>omega
         case rel =>
           have hhi:=HH.out i (by omega)
           refine⟨?_,j+1,_,by omega,by go_num,G0.set i j _ _ (by omega) (by omega),HX.out.block ?_ (by go_size),fun r hr c hc hq=>?_⟩
           · repeat' (first | (with_reducible exact HB) | (with_reducible refine Below.setCell ?_ ?_ _) | go_size | omega)
           · rw [Below.heap_setCell _ _ _ _ (by show w.heap.size≠h i;omega),Below.heap_setCell _ _ _ _ (by show w.heap.size≠h i;omega)]
           · by_cases e:r=i∧c=j
             · rw [if_pos e,e.1,e.2,ET.out]
               exact tl.out
             · rw [if_neg e]
               exact HF.out r hr c hc (by omega)
set_option maxHeartbeats 4000000 in
theorem ballsH_w (A:Option Addr) (N C room:Nat) (RA:Nat→Option Addr) (RL RC:Nat→Nat) (X:Nat→Nat→Nat×Nat) (hN:N≤24) (hR:∀r,r<N→RL r=N) (hroom:room<18446744073709551616) (w:World) (V:Rws w A N RA RL RC X) (z:Nat→Nat→Rat) (hB:∀j,j<N→∃d,divR (gmP (fun r=>X r j) N) room 1=some d∧∀i,i<N→Hq (makeP (negB d) d) (z i j)) :
   Calls Tryz.prog 22 #[.slice A N C,.float .f64 room] w fun e w'=>∃g h F,e=.returned (.slice (some ⟨g,0,none⟩) N N)∧Grd w' g N N h F∧(∀r,r<N→∀c,c<N→Hq (F r c) (z r c))∧Below w.heap.size w w':=by
 have HR:Hid (∀r,r<N→RL r=N):=hR
 have HBB:Hid (∀j,j<N→∃d,divR (gmP (fun r=>X r j) N) room 1=some d∧∀i,i<N→Hq (makeP (negB d) d) (z i j)):=hB
 clear hR hB
 have cg:=fun w=>grid_w N N hN hN w
 go_enter Tryz.func22,Tryz.ntmps22
 go_wp2_with (go_at_call 41;refine (cg _).mono ?_;rintro _ w1 ⟨g,h,rfl,G0,hg,hh,HB⟩)
 clear cg
 have HH:Hid (∀r,r<N→w.heap.size≤h r):=hh
 clear hh
 go_loopg [16] N (fun G s16 wx=>Below w.heap.size w wx∧∃(j:Nat) (F:Nat→Nat→Nat×Nat),j+G=N∧s16=.int .i64 (j:Int)∧Grd wx g N N h F∧Hid (∀r,r<N→∀c,c<N→c<j→Hq (F r c) (z r c)))
 case atStart=>exact⟨HB,0,_,by omega,rfl,G0,fun r _ c _ hc=>absurd hc (by omega)⟩
 case round =>
   clear HB G0
   obtain⟨HB,j,F,hj,rfl,G0,HF⟩:=hrel
   by_cases cj:j=N
   · subst cj
     go_wp2_with fail
     go_ret
     exact⟨g,h,F,rfl,G0,fun r hr c hc=>HF.out r hr c hc hc,HB⟩
   · have hltj:(j:Int)<(N:Int):=by omega
     have cc:=column_w A N C j RA RL RC X hN (fun s hs=>by have:=HR.out s hs;omega) wr (V.keep HB)
     have hw:Hid (∀s,s<N→(X s j).1<18446744073709551616∧(X s j).2<18446744073709551616):=fun s hs=>rws_words V hs (by have:=HR.out s hs;omega)
     have gl:=(gm_am (fun r=>X r j) N).lt
     go_wp2_with (first
       | (go_at_call 52;refine cc.mono ?_;rintro _ w2 ⟨vb,rfl,hV,hvb,hb1⟩;have cm:=gm_w (some ⟨vb,0,none⟩) N N (fun r=>X r j) (by omega) w2 (hV.ivs hw.out))
       | (go_at_call 57;refine cm.mono ?_;rintro _ w3 ⟨rfl,hb2⟩)
       | (go_at_call 56;refine (div_w _ _ 1 gl hroom _).mono ?_;rintro _ w4 ⟨⟨d,rfl,hd,hm⟩,hb3⟩))
     obtain⟨d',e',hz⟩:=HBB.out j (by omega)
     rw [e'] at hm
     obtain rfl:d=d':=hm
     clear e'
     replace G0:=((G0.keep hb1).keep hb2).keep hb3
     replace HB:=later (later (later HB hb1) hb2) hb3
     clear cc cm hb1 hb2 hb3 hV hvb gl hw
     have hneg:Op.negFloat .f64 d=negB d:=negFloat_eq d hd
     have hnl:=negB_lt hd
     have ck:=fun w=>make_w (negB d) d hnl hd w
     have ml:Hid (∀i,i<N→Hq (makeP (negB d) d) (z i j)):=hz
     clear hz
     generalize makeP (negB d) d=zz at ck ml
     generalize negB d=nd at ck hneg hnl
     go_loopg [27] N (fun G s27 wy=>Below w.heap.size w wy∧∃(i:Nat) (F:Nat→Nat→Nat×Nat),i+G=N∧s27=.int .i64 (i:Int)∧Grd wy g N N h F∧Hid (∀r,r<N→∀c,c<N→(c<j∨(c=j∧r<i))→Hq (F r c) (z r c)))
     case atStart=>exact⟨HB,0,F,by omega,rfl,G0,fun r hr c hc q=>HF.out r hr c hc (by omega)⟩
     case round =>
       clear HB G0 HF F
       obtain⟨HB,i,F,hi,rfl,G0,HF⟩:=hrel
       by_cases ci:i=N
       · subst ci
         go_wp2_with fail
         go_roundg (i-j-1)
         case measure=>omega
         case rel=>exact⟨HB,j+1,F,by omega,by go_num,G0,fun r hr c hc q=>HF.out r hr c hc (by omega)⟩
       · have hlti:(i:Int)<(N:Int):=by omega
         obtain⟨g0, -⟩:=G0.out.2 i (by omega)
         have gl:=G0.out.1
         go_upto_region 9 with fail
         have k0:=fun n:Behind wr=>n.cell g0 gl
         refine tail_behind 9 (by kernel_rfl) (by kernel_rfl) ?_
         simp only [List.take_succ_cons,List.take_zero,List.drop_succ_cons,List.drop_zero]
         repeat (go_big_quiet_step (first
           | (go_at_call 58;with_reducible refine Behind.call (ck _))))
         refine wpQuiet_nil ?_
         rintro _ ⟨q,rfl⟩
         obtain⟨W,hb1⟩:=q
         dsimp only
         clear k0 g0 gl
         replace G0:=G0.keep hb1
         replace HB:=later HB hb1
         clear hb1
         obtain⟨i0,i1,f0,f1⟩:=id ((G0.row i (by omega)).2 j (by omega))
         go_wp2_with fail
         go_roundg (N-i-1)
         case measure=>omega
         case rel =>
           have hhi:=HH.out i (by omega)
           refine⟨?_,i+1,_,by omega,by go_num,G0.set i j _ _ (by omega) (by omega),fun r hr c hc hq=>?_⟩
           · repeat' (first | (with_reducible exact HB) | (with_reducible refine Below.setCell ?_ ?_ _) | go_size | omega)
           · by_cases e:r=i∧c=j
             · rw [if_pos e,e.2]
               exact ml.out r hr
             · rw [if_neg e]
               exact HF.out r hr c hc (by omega)
end Go.Proofs.YtlabmpngbcnhpaaGreat
