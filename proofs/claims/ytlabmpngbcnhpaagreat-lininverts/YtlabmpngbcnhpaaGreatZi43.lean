/- LinSingular: the law's walk. The reference's question whether a matrix holds an inverse: the walk. -/
import Derived.Test.YtlabmpngbcnhpaaGreatZi42
import Derived.Test.YtlabmpngbcnhpaaGreatZi28
namespace Go.Proofs.YtlabmpngbcnhpaaGreat
open Go.ChangeShapes Go.WideShapes Go.ChangeAt Go.RowKit
set_option maxHeartbeats 1000000 in
theorem lsq_w (A:Option Addr) (N C:Nat) (RA:Nat→Option Addr) (RL RC:Nat→Nat) (X:Nat→Nat→Nat) (hN:N≤9223372036854775807) (w:World) (H:Rfs w A N RA RL RC X) :
   Calls Tryz.prog 5 #[.slice A N C] w fun e w'=>e=.returned (.bool (fltB N RL X&&decide (N=RL 0)))∧Below w.heap.size w w':=by
 have c1:=rfloats_w A N C RA RL RC X hN w H
 cases hf:fltB N RL X
 · rw [hf] at c1
   go_enter Tryz.func5,Tryz.ntmps5
   go_wp2_with (go_at_call 25;(with_reducible refine c1.mono ?_);rintro _ W1 ⟨rfl,HB⟩)
   go_ret
   exact⟨rfl,HB⟩
 · rw [hf] at c1
   obtain⟨m1,m2, -,m4,m5⟩:=fltB_parts hf
   obtain⟨b,o,rfl,hb,c0, -, -⟩:=H 0 (by omega)
   rw [Nat.add_zero] at c0
   generalize RA 0=R0 at *
   generalize RC 0=Q0 at *
   generalize RL 0=m at *
   have n0:(0:Int)<(N:Int):=by omega
   have ee:((N:Int)==(m:Int))=decide (N=m):=by
     by_cases c:N=m
     · rw [decide_eq_true c,c];simp
     · rw [decide_eq_false c,beq_eq_false_iff_ne];omega
   rw [Bool.true_and,←ee]
   clear hf H ee m1 m2 m4 m5
   go_enter Tryz.func5,Tryz.ntmps5
   go_wp2_with (go_at_call 25;(with_reducible refine c1.mono ?_);rintro _ W1 ⟨rfl,HB⟩;replace c0:=keepsC HB c0 hb)
   go_ret
   exact⟨rfl,HB⟩
theorem cmpZ_ne {z:Int} (h:z≠0):(cmpZ z 0 != 0)=true:=by
 unfold cmpZ
 rw [bne_iff_ne]
 by_cases c:z<0
 · rw [if_pos c];omega
 · rw [if_neg c,if_pos (by omega)];omega
theorem detC_wide {n K K':Nat} (h:DetC n K) (hK:K≤K'):DetC n K':=fun A C v w M=>(h A C v w M).mono fun _ _ ⟨⟨x,a,b⟩,c⟩=>⟨⟨x,a,b.wide (Int.le_refl _) hK⟩,c⟩
theorem det_all {n:Nat} (n3:n≤3):DetC n 100000:=by
 have d1:=det_step 0 53 (by omega) (by omega) (by omega) det_0
 have d2:=det_step 1 _ (by omega) (by omega) (by omega) d1
 have d3:=det_step 2 _ (by omega) (by omega) (by omega) d2
 have n4:n=0∨n=1∨n=2∨n=3:=by omega
 rcases n4 with rfl | rfl | rfl | rfl
 · exact detC_wide det_0 (by omega)
 · exact detC_wide d1 (by omega)
 · exact detC_wide d2 (by omega)
 · exact detC_wide d3 (by omega)
theorem woI_w (A:Option Addr) (n C N i0 j:Nat) (v:Nat→Nat→Int) (hn:n=N+1) (hN:N≤2) (hi:i0<n) (hj:j<n) (w:World) (M:MatV w A n v) :
   Calls Tryz.prog 30 #[.slice A n C,.int .i64 (i0:Int),.int .i64 (j:Int)] w fun e w'=>(∃Aw Cw,e=.returned (.slice Aw N Cw)∧MatV w' Aw N (fun r c=>v (skipN i0 r) (skipN j c)))∧Below w.heap.size w w':=by
 subst hn
 obtain⟨RA,RC,Z,H,hz⟩:=M
 exact (withoutI_w A (N+1) (N+1) C RA RC Z i0 j (by omega) (by omega) (by omega) w H).mono fun e w' ⟨u,vs,he,own,rows,hb1⟩=>by
   obtain⟨Aw,Cw,rfl,m⟩:=wo_matI hi hj own rows (v:=v) (fun r hr c hc=>(hz r hr c hc).keep hb1)
   exact⟨⟨Aw,Cw,he,m⟩,hb1⟩
theorem par_wj {i j:Nat} (hi:i<3) (hj:j<3):wrap64 ((i:Int)+(j:Int))=(i:Int)+(j:Int):=by unfold wrap64;omega
theorem par_tm (i j:Nat):Int.tmod ((i:Int)+(j:Int)) 2=(((i+j)%2:Nat):Int):=by rw [Int.tmod_eq_emod_of_nonneg (by omega)];omega
theorem par_ne {i j:Nat} (h:¬(i+j)%2=1):((((i+j)%2:Nat):Int)==1)=false:=by rw [beq_eq_false_iff_ne];omega
structure HiS (w wx:World) (A7:Option Addr) (n N:Nat) (v:Nat→Nat→Int) (db:Nat) (d:Nv) (dt:Int):Prop where
 m:MatV wx A7 n v
 x:Has3 wx db (.bool d.g) (.slice d.a d.l d.c) (.int .i64 d.e)
 n:NumZ (-1074*(N:Int)-1074) (971*(N:Int)+971) 100000 wx d.val dt
 hb:Below w.heap.size w wx
theorem HiS.keep {w wx w2:World} {A7:Option Addr} {n N:Nat} {v:Nat→Nat→Int} {db:Nat} {d:Nv} {dt:Int} (h:HiS w wx A7 n N v db d dt) (hb:Below wx.heap.size wx w2):HiS w w2 A7 n N v db d dt:=⟨h.m.keep hb,h.x.keep hb,h.n.keep hb,later h.hb hb⟩
set_option maxRecDepth 8000 in
set_option maxHeartbeats 16000000 in
theorem hinv_w (A B:Option Addr) (n C N:Nat) (RA RB:Nat→Option Addr) (RC RD:Nat→Nat) (X:Nat→Nat→Nat) (Y:Nat→Nat→Nat×Nat) (Z:Nat→Nat→Rat) (hn:n=N+1) (n3:n≤3) (hf:fltB n (fun _=>n) X=true) (hZ:InvOf n X Z) (hreg:RegQ n X) (w:World)
   (H:Rfs w A n RA (fun _=>n) RC X) (U:Rws w B n RB (fun _=>n) RD Y) (hY:∀r,r<n→∀c,c<n→Hq (Y r c) (Z r c)) :
   Calls Tryz.prog 7 #[.slice B n n,.slice A n C] w fun e w'=>e=.returned (.bool true)∧Below w.heap.size w w':=by
 have dz:=det_reg (by omega) n3 hreg
 have qr:=fun i j (hi:i<n) (hj:j<n)=>quot_rel hZ (by omega) n3 hi hj
 have cN:=nums_w A n C RA (fun _=>n) RC X (by omega) (fun _ _=>rfl) (fun r hr c hc=>fltB_fin hf hr hc) w H
 have dK:=det_all n3
 have dM:=det_all (n:=N) (by omega)
 unfold DetC at dK dM
 clear hZ hreg hf
 obtain⟨v,hv⟩:∃v:Nat→Nat→Int,v=fun r c=>V (key (X r c)):=⟨_,rfl⟩
 rw [←hv] at cN dz qr
 clear hv
 have sT:-1074*(n:Int)=-1074*(N:Int)-1074:=by omega
 have tT:971*(n:Int)=971*(N:Int)+971:=by omega
 rw [sT,tT] at dK
 clear sT tT
 have cw:=fun W A' C' i j (hi:i<n) (hj:j<n) (M:MatV W A' n v)=>woI_w A' n C' N j i v hn (by omega) hj hi W M
 have UU:Hid _:=U
 have qq:Hid _:=qr
 have yy:Hid _:=hY
 have nI:(n:Int)≤3:=by omega
 have hn2:Hid _:=hn
 clear U H qr hY hn
 obtain⟨dt,hdt⟩:∃dt:Int,dt=detZ n v:=⟨_,rfl⟩
 rw [←hdt] at dz
 have sg:cmpZ dt 0≠0:=by have:=cmpZ_ne dz;rwa [bne_iff_ne] at this
 have sgb:(cmpZ dt 0==0)=false:=by rw [beq_eq_false_iff_ne];exact sg
 go_enter Tryz.func7,Tryz.ntmps7
 go_upto_region 3 with (first
   | (go_at_call 27;(with_reducible refine cN.mono ?_);rintro _ W7 ⟨v7,vs7,rfl,o7,r7,hb1⟩;obtain⟨A7,C7,rfl,M7⟩:=rows_mat o7 r7.1 (fun r hr=>by obtain⟨A,C,T,a,b,c,d⟩:=r7.2 r hr;exact⟨A,C,T,a,b,c,fun k hk=>d k (by omega)⟩);have HB:=hb1;clear hb1 o7 r7 cN)
   | (go_at_call 28;(with_reducible refine (dK _ _ _ _ M7).mono ?_);rw [←hdt];rintro _ W8 ⟨⟨v8,rfl,N8⟩,hb1⟩;obtain⟨g8,a8,l8,k8,e8,rfl⟩:=N8.shape;replace HB:=later HB hb1;replace M7:=M7.keep hb1;clear hb1 dK))
 have hb2:=grewQ W8 (.cells #[.bool g8,.slice a8 l8 k8,.int .i64 e8] 56)
 have S:HiS w (W8.alloc (.cells #[.bool g8,.slice a8 l8 k8,.int .i64 e8] 56)) A7 n N v W8.heap.size ⟨g8,a8,l8,k8,e8⟩ dt:=⟨M7.keep hb2,h3_newQ _ _ _ _ _,N8.keep hb2,later HB hb2⟩
 clear hb2 M7 N8 HB
 generalize W8.alloc (.cells #[.bool g8,.slice a8 l8 k8,.int .i64 e8] 56)=V8 at *
 generalize W8.heap.size=db at *
 obtain⟨x0,x1,x2,x3,x4,x5,x6⟩:=id S.x
 dsimp only at x0 x1 x2
 have ns:=S.n
 dsimp only [Nv.val] at ns
 have csg:=fun W (q:NumZ (-1074*(N:Int)-1074) (971*(N:Int)+971) 100000 W (.agg #[.bool g8,.slice a8 l8 k8,.int .i64 e8]) dt)=>sign_z q
 generalize cmpZ dt 0=sv at *
 go_upto_region 6 with (go_at_call 29;(with_reducible refine (csg _ ns).mono ?_);rintro _ W9 ⟨rfl,hb1⟩;replace S:=S.keep hb1;clear hb1 x0 x1 x2 x3 x4 x5 x6 ns csg)
 go_loopg [19] n (fun G s19 wx=>∃i:Nat,s19=.int .i64 (i:Int)∧i≤n∧i+G=n∧HiS w wx A7 n N v db ⟨g8,a8,l8,k8,e8⟩ dt)
 case atStart=>exact⟨0,rfl,by omega,by omega,S⟩
 case round =>
   clear S
   obtain⟨i,rfl,hi,hG,S⟩:=hrel
   by_cases c:i<n
   · have ci:(i:Int)<(n:Int):=by omega
     obtain⟨b,o,eB,hb,cr, -,ivs⟩:=UU.out i c
     subst eB
     obtain⟨rb,ro,eR⟩:∃rb ro,RB i=some ⟨rb,ro,none⟩:=by
       obtain⟨rb,ro,e, -⟩:=ivs 0 (show 0<n by omega)
       exact⟨rb,ro,e⟩
     rw [eR] at cr ivs
     clear eR
     have cr0:=cr
     replace cr:=keepsC S.hb cr hb
     go_upto_region 9 with fail
     clear cr
     go_loopg [27] n (fun G s27 wx=>∃j:Nat,s27=.int .i64 (j:Int)∧j≤n∧j+G=n∧HiS w wx A7 n N v db ⟨g8,a8,l8,k8,e8⟩ dt)
     case atStart=>exact⟨0,rfl,by omega,by omega,S⟩
     case round =>
       clear S
       obtain⟨j,rfl,hj,hGj,S⟩:=hrel
       by_cases c2:j<n
       · have c2i:(j:Int)<(n:Int):=by omega
         obtain⟨dm,hdm⟩:∃dm:Int,dm=detZ N (fun r c=>v (skipN j r) (skipN i c)):=⟨_,rfl⟩
         have dM2:=fun A C W (m:MatV W A N (fun r c=>v (skipN j r) (skipN i c)))=>dM A C _ W m
         rw [←hdm] at dM2
         go_upto_region 12 with (first
           | (go_at_call 30;(with_reducible refine (cw _ _ _ _ _ c c2 S.m).mono ?_);rintro _ W4 ⟨⟨Aw,Cw,rfl,Mw⟩,hb1⟩;replace S:=S.keep hb1;clear hb1)
           | (go_at_call 28;(with_reducible refine (dM2 _ _ _ Mw).mono ?_);rintro _ W5 ⟨⟨v5,rfl,N5⟩,hb1⟩;obtain⟨g5,a5,l5,k5,e5,rfl⟩:=N5.shape;replace S:=S.keep hb1;clear hb1 Mw))
         have hbC:=grewQ W5 (.cells #[.bool g5,.slice a5 l5 k5,.int .i64 e5] 56)
         have Cb:Has3 (W5.alloc (.cells #[.bool g5,.slice a5 l5 k5,.int .i64 e5] 56)) W5.heap.size (.bool g5) (.slice a5 l5 k5) (.int .i64 e5):=h3_newQ _ _ _ _ _
         have BC:=Boxed.new W5 #[.bool g5,.slice a5 l5 k5,.int .i64 e5]
         have N6:=N5.keep hbC
         clear N5 dM2
         generalize W5.alloc (.cells #[.bool g5,.slice a5 l5 k5,.int .i64 e5] 56)=V5 at *
         have e1:n-1=N:=by have:=hn2.out;omega
         have hcf:Hid (cofI n v i j=if (i+j)%2=1 then -dm else dm):=by
           show _=_
           unfold cofI
           rw [e1,←hdm]
         clear hdm e1
         have wj:=par_wj (i:=i) (j:=j) (Nat.lt_of_lt_of_le c n3) (Nat.lt_of_lt_of_le c2 n3)
         obtain⟨pz,tm⟩:∃pz:Int,Int.tmod ((i:Int)+(j:Int)) 2=pz:=⟨_,rfl⟩
         have htm:Hid (pz=(((i+j)%2:Nat):Int)):=by rw [←tm];exact par_tm i j
         go_upto_if 39 with fail
         clear tm wj
         go_cut [41] from 39 to 41 (fun _ wx=>∃cc:Nv,Has3 wx W5.heap.size (.bool cc.g) (.slice cc.a cc.l cc.c) (.int .i64 cc.e)∧NumZ (-1074*(N:Int)) (971*(N:Int)) 100000 wx cc.val (cofI n v i j)∧Below W5.heap.size W5 wx)
         case first =>
           by_cases par:(i+j)%2=1
           · rw [if_pos par] at hcf
             have pi:(pz==1)=true:=by rw [htm.out,par];rfl
             obtain⟨z0,z1,z2,z3,z4,z5,z6⟩:=id Cb
             clear par
             go_wp2_with (go_at_call 31;(with_reducible refine (minus_z N6).mono ?_);rintro _ W6 ⟨⟨v6,rfl,N7⟩,hb1⟩;obtain⟨g6,a6,l6,k6,e6,rfl⟩:=N7.shape;replace Cb:=Cb.keep hb1;replace BC:=BC.keep hb1;replace hbC:=later hbC hb1;clear hb1 z0 z1 z2 z3 z4 z5 z6;obtain⟨z0,z1,z2,z3,z4,z5,z6⟩:=id Cb)
             go_meet
             case rel=>exact⟨⟨g6,a6,l6,k6,e6⟩,Cb.set3 _ _ _,by rw [hcf.out];exact N7.put3 BC _ _ _,below_set3 hbC (Nat.le_refl _) _ _ _⟩
           · rw [if_neg par] at hcf
             have pi:(pz==1)=false:=by rw [htm.out];exact par_ne par
             clear par
             go_wp2_with fail
             go_meet
             case rel=>exact⟨⟨g5,a5,l5,k5,e5⟩,Cb,by rw [hcf.out];exact N6,hbC⟩
         case rest =>
           clear Cb BC N6 hbC hcf htm
           obtain⟨⟨cg,ca,cl,cc,ce⟩,Cc,Nc,hbc⟩:=hcut
           dsimp only [Nv.val] at Cc Nc
           replace S:=S.keep hbc
           clear hbc
           obtain⟨VV,rfl⟩:∃VV,VV=wc:=⟨_,rfl⟩
           obtain⟨b',o',eA,hb',y0,y1, -, -⟩:=ivs j c2
           cases eA
           have hq:=yy.out i c j c2
           generalize Y i j=pp at *
           obtain⟨ylo,yhi⟩:=pp
           dsimp only at y0 y1
           replace y0:=keepsC S.hb y0 hb'
           replace y1:=keepsC S.hb y1 hb'
           have cr:=keepsC S.hb cr0 hb
           have lb:=Nat.lt_of_lt_of_le hb S.hb.size
           have lb':=Nat.lt_of_lt_of_le hb' S.hb.size
           obtain⟨x0,x1,x2, -, -, -,x6⟩:=id S.x
           dsimp only at x0 x1 x2
           obtain⟨z0,z1,z2, -, -, -,z6⟩:=id Cc
           have ns:=S.n
           dsimp only [Nv.val] at ns
           have kr:=fun n:Behind VV=>n.cell cr lb
           have ky0:=fun n:Behind VV=>n.cell y0 lb'
           have ky1:=fun n:Behind VV=>n.cell y1 lb'
           have kx0:=fun n:Behind VV=>n.cell x0 x6
           have kx1:=fun n:Behind VV=>n.cell x1 x6
           have kx2:=fun n:Behind VV=>n.cell x2 x6
           have kz0:=fun n:Behind VV=>n.cell z0 z6
           have kz1:=fun n:Behind VV=>n.cell z1 z6
           have kz2:=fun n:Behind VV=>n.cell z2 z6
           have cq:=fun m:Behind VV=>hquot_w ylo yhi (Z i j) hq cg g8 ca a8 cl cc l8 k8 ce e8 N 100000 (by have:=hn2.out;omega) (by omega) (by omega) (cofI n v i j) dt dz (by rw [hdt];exact qq.out i j c c2) m.W (Nc.keep m.bel) (ns.keep m.bel)
           clear hq cr y0 y1 x0 x1 x2 z0 z1 z2 Nc ns Cc
           go_upto_region 14 with fail
           refine region_behind (by kernel_rfl) (by kernel_rfl) ?_
           repeat (go_big_quiet_step (first | (go_at_call 32;with_reducible refine Behind.call (cq _))))
           refine wpQuiet_nil ?_
           rintro _ ⟨nb,rfl⟩
           obtain⟨W,hbW⟩:=nb
           dsimp only
           replace S:=S.keep hbW
           clear kr ky0 ky1 kx0 kx1 kx2 kz0 kz1 kz2 cq hbW
           go_wp2_with fail
           (go_roundg (n-j-1)
            case measure=>omega
            case rel=>exact⟨j+1,by go_num,by omega,by omega,S⟩)
       · have c2i:¬(j:Int)<(n:Int):=by omega
         go_wp2_with fail
         (go_roundg (n-i-1)
          case measure=>omega
          case rel=>exact⟨i+1,by go_num,by omega,by omega,S⟩)
   · have ci:¬(i:Int)<(n:Int):=by omega
     go_wp2_with fail
     go_ret
     exact⟨rfl,S.hb⟩
end Go.Proofs.YtlabmpngbcnhpaaGreat
