/- The reference's determinant: the walk. The reference's question whether an interval holds a quotient. -/
import Derived.Test.YtlabmpngbcnhpaaGreatZi26
import Derived.Test.YtlabmpngbcnhpaaGreatZi25
import Derived.Test.YtlabmpngbcnhpaaGreatZi16
namespace Go.Proofs.YtlabmpngbcnhpaaGreat
open Go.ChangeShapes Go.WideShapes Go.ChangeAt Go.RowKit
def DetC (N K:Nat):Prop:=∀(A:Option Addr) (C:Nat) (v:Nat→Nat→Int) (w:World),MatV w A N v →
   Calls Tryz.prog 28 #[.slice A N C] w fun e w'=>(∃x,e=.returned x∧NumZ (-1074*(N:Int)) (971*(N:Int)) K w' x (detZ N v))∧Below w.heap.size w w'
set_option maxHeartbeats 1000000 in
theorem det_0:DetC 0 53:=fun A C v w _=>by
 have R:Has3 (w.alloc (.cells #[.bool false,.slice none 0 0,.int .i64 0] 56)) w.heap.size (.bool false) (.slice none 0 0) (.int .i64 0):=h3_newQ w _ _ _ _
 have B:=Boxed.new w #[.bool false,.slice none 0 0,.int .i64 0]
 have HB:Below w.heap.size w (w.alloc (.cells #[.bool false,.slice none 0 0,.int .i64 0] 56)):=by go_grown
 have ci:=fun W=>int_z W
 go_enter Tryz.func28,Tryz.ntmps28
 go_wp2_with (go_at_call 63;(with_reducible refine (ci _).mono ?_);rintro _ W1 ⟨⟨v4,rfl,N4⟩,hb1⟩;obtain⟨g4,a4,l4,k4,e4,rfl⟩:=N4.shape;replace R:=R.keep hb1;replace B:=B.keep hb1;replace HB:=later HB hb1;clear hb1;obtain⟨r0,r1,r2,r3,r4,r5,r6⟩:=id R)
 refine bodyPost_ret (v:=.agg #[.bool g4,.slice a4 l4 k4,.int .i64 e4]) (by simp [results,Tryz.results28,go_sem, *]) rfl ⟨⟨_,rfl,(N4.wide (by omega) (by omega)).put3 B _ _ _⟩,below_set3 HB (Nat.le_refl _) _ _ _⟩
set_option maxRecDepth 4000 in
set_option maxHeartbeats 16000000 in
theorem det_step (N K:Nat) (hN:N≤2) (hK:53≤K) (hK2:K≤20000) (ih:DetC N K):DetC (N+1) (K+K+(N+1)*(2045*(N+1)+1)):=fun A C v w M=>by
 have hdet:Hid (detZ (N+1) v=detS (fun j=>v 0 j*detZ N (fun r c=>v (r+1) (skipN j c))) (N+1)):=rfl
 generalize hn:N+1=n at *
 obtain⟨RA,RC,Z,H,hz⟩:=M
 obtain⟨S,hS⟩:∃S:Int,S=-1074*(n:Int):=⟨_,rfl⟩
 obtain⟨T,hT⟩:∃T:Int,T=971*(n:Int):=⟨_,rfl⟩
 rw [←hS,←hT]
 obtain⟨b,o,eA,hb,cr,nus⟩:=H 0 (by omega)
 obtain⟨rb,ro,eR⟩:∃rb ro,RA 0=some ⟨rb,ro,none⟩:=by
   obtain⟨rb,ro,e, -⟩:=nus 0 (show 0<n by omega)
   exact⟨rb,ro,e⟩
 rw [eR] at cr nus
 have cw:∀(j:Nat),j<n→∀W,Below w.heap.size w W→Calls Tryz.prog 30 #[.slice A n C,.int .i64 0,.int .i64 (j:Int)] W fun e w'=>(∃Aw Cw,e=.returned (.slice Aw N Cw)∧MatV w' Aw N (fun r c=>v (r+1) (skipN j c)))∧Below W.heap.size W w':=fun j hj W hW =>
   (without_w A n n C RA RC Z j (by omega) (by omega) (by omega) W (H.keep hW)).mono fun e w' ⟨u,vs,he,own,rows,hb1⟩=>by
     obtain⟨Aw,Cw,rfl,m⟩:=wo_mat (N:=N) (j:=j) (show j<N+1 by omega) own (by rw [hn];exact rows) (v:=v) (fun r hr c hc=>((hz r (by omega) c (by omega)).keep hW).keep hb1)
     exact⟨⟨Aw,Cw,he,m⟩,hb1⟩
 have HH:Hid _:=nus
 have hz2:Hid _:=hz
 have n0:((n:Int)==0)=false:=by rw [beq_eq_false_iff_ne];omega
 have n1:(0:Int)<(n:Int):=by omega
 have n3:n≤3:=by omega
 clear nus hz H eR
 have D1:DtS w ((w.alloc (.cells #[.bool false,.slice none 0 0,.int .i64 0] 56)).alloc (.cells #[.bool false,.slice none 0 0,.int .i64 0] 56)) ⟨false,none,0,0,0⟩ S T (K+K) 0:=by
   have sz:(w.alloc (.cells #[.bool false,.slice none 0 0,.int .i64 0] 56)).heap.size=w.heap.size+1:=by simp
   refine⟨(h3_newQ w _ _ _ _).keep (grewQ _ _),by rw [←sz];exact h3_newQ _ _ _ _ _,(Boxed.new w _).keep (grewQ _ _),by rw [←sz];exact Boxed.new _ _, ?_,by go_grown⟩
   exact⟨false,.slice none 0 0,0,0,rfl,big_nil _,Nat.two_pow_pos _,by omega,by omega,by simp [sgnd]⟩
 subst eA
 go_enter Tryz.func28,Tryz.ntmps28
 replace cr:=keepsC D1.hb cr hb
 rw [Nat.add_zero] at cr
 have hn2:Hid _:=hn
 clear hn
 go_upto_region 5 with fail
 clear cr
 generalize (w.alloc (.cells #[.bool false,.slice none 0 0,.int .i64 0] 56)).alloc (.cells #[.bool false,.slice none 0 0,.int .i64 0] 56)=V0 at *
 go_loopg [16] (n) (fun G s16 wx=>∃(j:Nat) (sm:Nv),s16=.int .i64 (j:Int)∧j≤n∧j+G=n∧DtS w wx sm S T (K+K+j*(2045*n+1)) (detS (fun j=>v 0 j*detZ N (fun r c=>v (r+1) (skipN j c))) j))
 case atStart=>exact⟨0,_,rfl,by omega,by omega,by rw [Nat.zero_mul,Nat.add_zero];exact D1⟩
 case round =>
   clear D1
   obtain⟨j,sm,rfl,hj,hG,D⟩:=hrel
   obtain⟨L,hL⟩:∃L:Nat,L=K+K+j*(2045*n+1):=⟨_,rfl⟩
   rw [←hL] at D
   by_cases c:j<n
   · have ci:(j:Int)<(n:Int):=by omega
     obtain⟨b',o',eA,hb',x0,x1,x2⟩:=Nus.keep HH.out D.hb j c
     cases eA
     have NZ:=(((hz2.out 0 (by omega) j c).keep D.hb).wide (Int.le_refl _) hK)
     replace cw:=cw j c
     generalize Z 0 j=z at *
     obtain⟨zg,za,zl,zc,ze⟩:=z
     dsimp only [Nv.val] at NZ x0 x1 x2
     obtain⟨dj,hdj⟩:∃dj:Int,dj=detZ N (fun r c=>v (r+1) (skipN j c)):=⟨_,rfl⟩
     have cd:∀W Aw Cw,MatV W Aw N (fun r c=>v (r+1) (skipN j c))→Calls Tryz.prog 28 #[.slice Aw N Cw] W fun e w'=>(∃x,e=.returned x∧NumZ (-1074*(N:Int)) (971*(N:Int)) K w' x dj)∧Below W.heap.size W w':=fun W Aw Cw m=>by rw [hdj];exact ih Aw Cw _ W m
     obtain⟨pr,hpr⟩:∃pr:Int,pr=v 0 j*dj:=⟨_,rfl⟩
     have cp:∀W y,NumZ (-1074) 971 K W (.agg #[.bool zg,.slice za zl zc,.int .i64 ze]) (v 0 j)→NumZ (-1074*(N:Int)) (971*(N:Int)) K W y dj→Calls Tryz.prog 64 #[.agg #[.bool zg,.slice za zl zc,.int .i64 ze],y] W fun e w'=>(∃x,e=.returned x∧NumZ S T (K+K) w' x pr)∧Below W.heap.size W w':=fun W y p q=>by
       have:=prod_z (by omega) (by omega) (by omega) (by omega) p q
       rw [show (-1074:Int)+-1074*(N:Int)=S by have:=hn2.out;omega,show (971:Int)+971*(N:Int)=T by have:=hn2.out;omega,←hpr] at this
       exact this
     have cm:∀W y,NumZ S T (K+K) W y pr→Calls Tryz.prog 31 #[y] W fun e w'=>(∃x,e=.returned x∧NumZ S T (K+K) w' x (-pr))∧Below W.heap.size W w':=fun W y p=>minus_z p
     have hE:Hid (detS (fun j=>v 0 j*detZ N (fun r c=>v (r+1) (skipN j c))) (j+1)=detS (fun j=>v 0 j*detZ N (fun r c=>v (r+1) (skipN j c))) j+(if j%2=1 then -pr else pr)):=by
       show _=_
       rw [hpr,hdj];rfl
     have cs:∀W x y a p,NumZ S T L W x a→NumZ S T (K+K) W y p→Calls Tryz.prog 65 #[x,y] W fun e w'=>(∃x,e=.returned x∧NumZ S T (L+(2045*n+1)) w' x (a+p))∧Below W.heap.size W w':=fun W x y a p h1 h2 =>
       sum_z (K:=L) (by have:=hn2.out;have:j*(2045*n+1)≤3*6136:=Nat.mul_le_mul (by omega) (by omega);omega) (by have:=hn2.out;omega) (by have:=hn2.out;omega) (by have:=hn2.out;omega) h1 (h2.wide (Int.le_refl _) (by omega))
     have hL2:Hid (L+(2045*n+1)=K+K+(j+1)*(2045*n+1)):=by show _=_;rw [hL,Nat.add_mul,Nat.one_mul];omega
     generalize hs0:detS (fun j=>v 0 j*detZ N (fun r c=>v (r+1) (skipN j c))) j=s0 at *
     clear hdj hpr hL hz2 ih hs0
     go_upto_region 7 with fail
     have Y:Has3 (wr.alloc (.cells #[.bool zg,.slice za zl zc,.int .i64 ze] 56)) wr.heap.size (.bool zg) (.slice za zl zc) (.int .i64 ze):=h3_newQ wr _ _ _ _
     have h3:=grewQ wr (.cells #[.bool zg,.slice za zl zc,.int .i64 ze] 56)
     replace D:=D.keep h3
     replace NZ:=NZ.keep h3
     clear h3 x0 x1 x2
     generalize wr.alloc (.cells #[.bool zg,.slice za zl zc,.int .i64 ze] 56)=V2 at *
     generalize wr.heap.size=yb at *
     have D0:=D
     have Y0:=Y
     have NZ0:=NZ
     have HD:Below V2.heap.size V2 V2.drew:=(Below.refl _ _).drew
     replace D:=D.keep HD
     replace Y:=Y.keep HD
     replace NZ:=NZ.keep HD
     clear HD
     go_cut [6] from 21 to 26 (fun s6 wx=>∃db d,s6=.pointer (some ⟨db,0,none⟩)∧DcS w wx sm d db S T L (K+K) s0 pr)
     case first =>
       go_region_held3 (fun w'=>w'.cell? ⟨yb,0,none⟩=some (.bool zg)∧w'.cell? ⟨yb,1,none⟩=some (.slice za zl zc)∧w'.cell? ⟨yb,2,none⟩=some (.int .i64 ze)) (first | with_reducible exact⟨Y.c0q,Y.c1q,Y.c2q⟩ | with_reducible exact⟨(Y.keep (grewQ _ _)).c0q,(Y.keep (grewQ _ _)).c1q,(Y.keep (grewQ _ _)).c2q⟩ | with_reducible exact⟨(Y.far4 nzy _ _ _).c0q,(Y.far4 nzy _ _ _).c1q,(Y.far4 nzy _ _ _).c2q⟩ | with_reducible exact⟨(Y0.keep (grewDQ _ _)).c0q,(Y0.keep (grewDQ _ _)).c1q,(Y0.keep (grewDQ _ _)).c2q⟩ | go_keep)
         (first
     | (go_at_call 30;(first | (with_reducible refine (cw _ D.hb).mono ?_) | (with_reducible refine (cw _ (later D0.hb (grewDQ V2 (.cells #[.bool false,.slice none 0 0,.int .i64 0] 56)))).mono ?_));rintro _ W3 ⟨⟨Aw,Cw,rfl,Mw⟩,hb1⟩;(first | (replace D:=D.keep hb1;replace Y:=Y.keep hb1;replace NZ:=NZ.keep hb1;(first | (replace Zb:=Zb.keep hb1;replace BZ:=BZ.keep hb1) | skip);clear hb1) | (have zt0:=trivial;have zle:=D0.lt;have nzy:=Y0.ltq;have hb2:=later (grewDQ V2 (.cells #[.bool false,.slice none 0 0,.int .i64 0] 56)) hb1;have BZ:=(boxedDQ V2).keep hb1;have Zb:=(h3_newDQ V2 (.bool false) (.slice none 0 0) (.int .i64 0) 56).keep hb1;replace D:=D0.keep hb2;replace Y:=Y0.keep hb2;replace NZ:=NZ0.keep hb2;clear hb1 hb2)))
     | (go_at_call 28;(first | (with_reducible refine (cd _ _ _ Mw).mono ?_) | (with_reducible refine (cd _ _ _ (Mw.keep (grewQ W3 (.cells #[.bool false,.slice none 0 0,.int .i64 0] 56)))).mono ?_));rintro _ W4 ⟨⟨v4,rfl,N4⟩,hb1⟩;obtain⟨g4,a4,l4,k4,e4,rfl⟩:=N4.shape;(first | (replace D:=D.keep hb1;replace Y:=Y.keep hb1;replace NZ:=NZ.keep hb1;(first | (replace Zb:=Zb.keep hb1;replace BZ:=BZ.keep hb1) | skip);clear hb1) | (have zt1:=trivial;have zle:=D.lt;have nzy:=Y.ltq;have hb2:=later (grewQ W3 (.cells #[.bool false,.slice none 0 0,.int .i64 0] 56)) hb1;have BZ:=(Boxed.new W3 #[.bool false,.slice none 0 0,.int .i64 0]).keep hb1;have Zb:=(h3_newQ W3 (.bool false) (.slice none 0 0) (.int .i64 0) 56).keep hb1;replace D:=D.keep hb2;replace Y:=Y.keep hb2;replace NZ:=NZ.keep hb2;clear hb1 hb2)))
     | (go_at_call 64;(first | (with_reducible refine (cp _ _ NZ N4).mono ?_) | (with_reducible refine (cp _ _ (NZ.keep (grewQ W4 (.cells #[.bool false,.slice none 0 0,.int .i64 0] 56))) (N4.keep (grewQ W4 (.cells #[.bool false,.slice none 0 0,.int .i64 0] 56)))).mono ?_));rintro _ W5 ⟨⟨v5,rfl,N5⟩,hb1⟩;obtain⟨g5,a5,l5,k5,e5,rfl⟩:=N5.shape;(first | (replace D:=D.keep hb1;replace Y:=Y.keep hb1;replace NZ:=NZ.keep hb1;(first | (replace Zb:=Zb.keep hb1;replace BZ:=BZ.keep hb1;obtain⟨t0,t1,t2,t3,t4,t5,t6⟩:=id Zb) | skip);clear hb1) | (have zt2:=trivial;have zle:=D.lt;have nzy:=Y.ltq;have hb2:=later (grewQ W4 (.cells #[.bool false,.slice none 0 0,.int .i64 0] 56)) hb1;have BZ:=(Boxed.new W4 #[.bool false,.slice none 0 0,.int .i64 0]).keep hb1;have Zb:=(h3_newQ W4 (.bool false) (.slice none 0 0) (.int .i64 0) 56).keep hb1;replace D:=D.keep hb2;replace Y:=Y.keep hb2;replace NZ:=NZ.keep hb2;clear hb1 hb2;obtain⟨t0,t1,t2,t3,t4,t5,t6⟩:=id Zb))))
       all_goals
         (first
           | (have qz:=zt0;clear qz zt0;have T6:DcS w (((W5.setCell ⟨V2.heap.size,0,none⟩ (.bool g5)).setCell ⟨V2.heap.size,1,none⟩ (.slice a5 l5 k5)).setCell ⟨V2.heap.size,2,none⟩ (.int .i64 e5)) sm ⟨g5,a5,l5,k5,e5⟩ V2.heap.size S T L (K+K) s0 pr:=⟨D.far zle BZ _ _ _,Has3.set3 Zb _ _ _,Boxed.set3 BZ _ _ _ _,NumZ.put3 N5 BZ _ _ _,zle⟩;clear Zb BZ t0 t1 t2 t3 t4 t5 t6 D Y NZ N5 zle nzy;generalize (((W5.setCell ⟨V2.heap.size,0,none⟩ (.bool g5)).setCell ⟨V2.heap.size,1,none⟩ (.slice a5 l5 k5)).setCell ⟨V2.heap.size,2,none⟩ (.int .i64 e5))=VF at *;generalize V2.heap.size=db at *)
           | (have qz:=zt1;clear qz zt1;have T6:DcS w (((W5.setCell ⟨W3.heap.size,0,none⟩ (.bool g5)).setCell ⟨W3.heap.size,1,none⟩ (.slice a5 l5 k5)).setCell ⟨W3.heap.size,2,none⟩ (.int .i64 e5)) sm ⟨g5,a5,l5,k5,e5⟩ W3.heap.size S T L (K+K) s0 pr:=⟨D.far zle BZ _ _ _,Has3.set3 Zb _ _ _,Boxed.set3 BZ _ _ _ _,NumZ.put3 N5 BZ _ _ _,zle⟩;clear Zb BZ t0 t1 t2 t3 t4 t5 t6 D Y NZ N5 zle nzy;generalize (((W5.setCell ⟨W3.heap.size,0,none⟩ (.bool g5)).setCell ⟨W3.heap.size,1,none⟩ (.slice a5 l5 k5)).setCell ⟨W3.heap.size,2,none⟩ (.int .i64 e5))=VF at *;generalize W3.heap.size=db at *)
           | (have qz:=zt2;clear qz zt2;have T6:DcS w (((W5.setCell ⟨W4.heap.size,0,none⟩ (.bool g5)).setCell ⟨W4.heap.size,1,none⟩ (.slice a5 l5 k5)).setCell ⟨W4.heap.size,2,none⟩ (.int .i64 e5)) sm ⟨g5,a5,l5,k5,e5⟩ W4.heap.size S T L (K+K) s0 pr:=⟨D.far zle BZ _ _ _,Has3.set3 Zb _ _ _,Boxed.set3 BZ _ _ _ _,NumZ.put3 N5 BZ _ _ _,zle⟩;clear Zb BZ t0 t1 t2 t3 t4 t5 t6 D Y NZ N5 zle nzy;generalize (((W5.setCell ⟨W4.heap.size,0,none⟩ (.bool g5)).setCell ⟨W4.heap.size,1,none⟩ (.slice a5 l5 k5)).setCell ⟨W4.heap.size,2,none⟩ (.int .i64 e5))=VF at *;generalize W4.heap.size=db at *)
           | (have hbF:=grewQ W5 (.cells #[.bool g5,.slice a5 l5 k5,.int .i64 e5] 56);have T6:DcS w (W5.alloc (.cells #[.bool g5,.slice a5 l5 k5,.int .i64 e5] 56)) sm ⟨g5,a5,l5,k5,e5⟩ W5.heap.size S T L (K+K) s0 pr:=⟨D.keep hbF,h3_newQ W5 _ _ _ _,Boxed.new W5 _,N5.keep hbF,D.lt⟩;clear hbF D Y NZ N5;generalize W5.alloc (.cells #[.bool g5,.slice a5 l5 k5,.int .i64 e5] 56)=VF at *;generalize W5.heap.size=db at *))
         go_wp2_with fail
         go_meet
         case rel=>exact⟨_,_,rfl,T6⟩
     case rest =>
       clear D Y NZ D0 Y0 NZ0 cw cd cp
       obtain⟨db,d,rfl,E⟩:=hcut
       obtain⟨dg,da,dl,dc,de⟩:=d
       obtain⟨sg,sa,sl,sc,se⟩:=sm
       have ne1:db≠w.heap.size+1:=by have:=E.lt;omega
       have nn:=E.t.n
       have nd:=E.n
       dsimp only [Nv.val] at nn nd
       obtain⟨m0,m1,m2,m3,m4,m5,m6⟩:=id E.t.m
       obtain⟨e0,e1,e2,e3,e4,e5,e6⟩:=id E.x
       dsimp only at m0 m1 m2 e0 e1 e2
       by_cases hp:j%2=1
       · have tm:Int.tmod (j:Int) 2=1:=by rw [Int.tmod_eq_emod_of_nonneg (by omega)];omega
         rw [if_pos hp] at hE
         clear hp
         go_upto_region 10 with (go_at_call 31;(with_reducible refine (cm _ _ nd).mono ?_);rintro _ W6 ⟨⟨v6,rfl,N6⟩,hb1⟩;obtain⟨g6,a6,l6,k6,q6,rfl⟩:=N6.shape;replace E:=E.keep hb1;clear hb1 nn nd m0 m1 m2 m3 m4 m5 m6 e0 e1 e2 e3 e4 e5 e6;obtain⟨e0,e1,e2,e3,e4,e5,e6⟩:=id E.x)
         have E2:DcS w (((W6.setCell ⟨db,0,none⟩ (.bool g6)).setCell ⟨db,1,none⟩ (.slice a6 l6 k6)).setCell ⟨db,2,none⟩ (.int .i64 q6)) ⟨sg,sa,sl,sc,se⟩ ⟨g6,a6,l6,k6,q6⟩ db S T L (K+K) s0 (-pr):=E.put ⟨g6,a6,l6,k6,q6⟩ N6
         clear E N6 e0 e1 e2 e3 e4 e5 e6
         generalize (((W6.setCell ⟨db,0,none⟩ (.bool g6)).setCell ⟨db,1,none⟩ (.slice a6 l6 k6)).setCell ⟨db,2,none⟩ (.int .i64 q6))=V6 at *
         have E:=E2
         clear E2
         have nn:=E.t.n
         have nd:=E.n
         dsimp only [Nv.val] at nn nd
         obtain⟨m0,m1,m2,m3,m4,m5,m6⟩:=id E.t.m
         obtain⟨e0,e1,e2,e3,e4,e5,e6⟩:=id E.x
         dsimp only at m0 m1 m2 e0 e1 e2
         go_wp2_with (go_at_call 65;(with_reducible refine (cs _ _ _ _ _ nn nd).mono ?_);rintro _ W7 ⟨⟨v7,rfl,N7⟩,hb1⟩;obtain⟨g7,a7,l7,k7,q7,rfl⟩:=N7.shape;replace E:=E.keep hb1;clear hb1 nn nd m0 m1 m2 m3 m4 m5 m6 e0 e1 e2 e3 e4 e5 e6;obtain⟨m0,m1,m2,m3,m4,m5,m6⟩:=id E.t.m)
         (go_roundg (n-j-1)
          case measure=>omega
          case rel=>exact⟨j+1,⟨g7,a7,l7,k7,q7⟩,by go_num,by omega,by omega,by rw [←hL2.out,hE.out];exact E.t.sum ⟨g7,a7,l7,k7,q7⟩ N7⟩)
       · have tm:Int.tmod (j:Int) 2=0:=by rw [Int.tmod_eq_emod_of_nonneg (by omega)];omega
         rw [if_neg hp] at hE
         clear hp
         go_wp2_with (go_at_call 65;(with_reducible refine (cs _ _ _ _ _ nn nd).mono ?_);rintro _ W7 ⟨⟨v7,rfl,N7⟩,hb1⟩;obtain⟨g7,a7,l7,k7,q7,rfl⟩:=N7.shape;replace E:=E.keep hb1;clear hb1 nn nd m0 m1 m2 m3 m4 m5 m6 e0 e1 e2 e3 e4 e5 e6;obtain⟨m0,m1,m2,m3,m4,m5,m6⟩:=id E.t.m)
         (go_roundg (n-j-1)
          case measure=>omega
          case rel=>exact⟨j+1,⟨g7,a7,l7,k7,q7⟩,by go_num,by omega,by omega,by rw [←hL2.out,hE.out];exact E.t.sum ⟨g7,a7,l7,k7,q7⟩ N7⟩)
   · have ci:¬(j:Int)<(n:Int):=by omega
     obtain rfl:j=n:=by omega
     obtain⟨sg,sa,sl,sc,se⟩:=sm
     obtain⟨m0,m1,m2,m3,m4,m5,m6⟩:=id D.m
     obtain⟨r0,r1,r2,r3,r4,r5,r6⟩:=id D.r
     dsimp only at m0 m1 m2
     have nn:=D.n
     dsimp only [Nv.val] at nn
     rw [hL,←hdet.out,hS,hT] at nn
     clear hdet cw HH hz2 hL ih
     go_wp2_with fail
     refine bodyPost_ret (v:=.agg #[.bool sg,.slice sa sl sc,.int .i64 se]) (by simp [results,Tryz.results28,go_sem, *]) rfl ⟨⟨_,rfl,nn.put3 D.br _ _ _⟩,below_set3 D.hb (Nat.le_refl _) _ _ _⟩
structure HqS (w wx:World) (lo hi:Nat) (a b:Nv) (m K:Nat) (c d:Int):Prop where
 x:Has2 wx w.heap.size (.float .f64 lo) (.float .f64 hi)
 ab:Has3 wx (w.heap.size+1) (.bool a.g) (.slice a.a a.l a.c) (.int .i64 a.e)
 bx:Has3 wx (w.heap.size+1+1) (.bool b.g) (.slice b.a b.l b.c) (.int .i64 b.e)
 ba:Boxed wx (w.heap.size+1)
 bb:Boxed wx (w.heap.size+1+1)
 na:NumZ (-1074*(m:Int)) (971*(m:Int)) K wx a.val c
 nb:NumZ (-1074*(m:Int)-1074) (971*(m:Int)+971) K wx b.val d
 hb:Below w.heap.size w wx
theorem has2_far3 {w:World} {b c:Nat} {x y:Value} (h:Has2 w b x y) (hne:b≠c) (u0 u1 u2:Value):Has2 (set3 w c u0 u1 u2) b x y:=by
 have hk:(set3 w c u0 u1 u2).heap[b]?=w.heap[b]?:=by
   show (((w.setCell ⟨c,0,none⟩ u0).setCell ⟨c,1,none⟩ u1).setCell ⟨c,2,none⟩ u2).heap[b]?=_
   rw [Below.heap_setCell _ _ _ _ hne,Below.heap_setCell _ _ _ _ hne,Below.heap_setCell _ _ _ _ hne]
 exact⟨(World.cell?_of_block hk).trans h.1,(World.cell?_of_block hk).trans h.2.1,(World.frozen?_of_block hk).trans h.2.2.1,(World.frozen?_of_block hk).trans h.2.2.2.1,by simp only [World.size_setCell];exact h.2.2.2.2⟩
theorem HqS.keep {w wx w2:World} {lo hi:Nat} {a b:Nv} {m K:Nat} {c d:Int} (h:HqS w wx lo hi a b m K c d) (hb:Below wx.heap.size wx w2):HqS w w2 lo hi a b m K c d:=⟨h.x.keep hb,h.ab.keep hb,h.bx.keep hb,h.ba.keep hb,h.bb.keep hb,h.na.keep hb,h.nb.keep hb,later h.hb hb⟩
theorem HqS.putA {w wx:World} {lo hi:Nat} {a b:Nv} {m K:Nat} {c d:Int} (h:HqS w wx lo hi a b m K c d) (n:Nv) {c':Int} (hn:NumZ (-1074*(m:Int)) (971*(m:Int)) K wx n.val c'):HqS w (set3 wx (w.heap.size+1) (.bool n.g) (.slice n.a n.l n.c) (.int .i64 n.e)) lo hi n b m K c' d :=
 ⟨has2_far3 h.x (by omega) _ _ _,h.ab.set3 _ _ _,h.bx.far4 (by omega) _ _ _,h.ba.set3 _ _ _ _,h.bb.set3 _ _ _ _,hn.put3 h.ba _ _ _,h.nb.put3 h.ba _ _ _,below_set3 h.hb (by omega) _ _ _⟩
theorem HqS.putB {w wx:World} {lo hi:Nat} {a b:Nv} {m K:Nat} {c d:Int} (h:HqS w wx lo hi a b m K c d) (n:Nv) {d':Int} (hn:NumZ (-1074*(m:Int)-1074) (971*(m:Int)+971) K wx n.val d'):HqS w (set3 wx (w.heap.size+1+1) (.bool n.g) (.slice n.a n.l n.c) (.int .i64 n.e)) lo hi a n m K c d' :=
 ⟨has2_far3 h.x (by omega) _ _ _,h.ab.far4 (by omega) _ _ _,h.bx.set3 _ _ _,h.ba.set3 _ _ _ _,h.bb.set3 _ _ _ _,h.na.put3 h.bb _ _ _,hn.put3 h.bb _ _ _,below_set3 h.hb (by omega) _ _ _⟩
theorem end_low {k:Int} {q:Rat} {c d:Int} (hd:0<d) (hr:q*(d:Rat)=(c:Rat)*((unitN:Int):Rat)) (h:vq k≤q):V k*d≤c*((2^(expN+expN):Nat):Int):=by
 have e:((2^(expN+expN):Nat):Int)=(unitN:Int)*(unitN:Int):=by
   unfold unitN
   rw [Nat.pow_add,Int.natCast_mul]
 rw [e]
 have up:=unitQ_pos
 have io:=iuQ_one
 have dp:(0:Rat)<(d:Rat):=by
   have:=Rat.intCast_lt_intCast.2 hd
   simpa using this
 refine Rat.intCast_le_intCast.1 ?_
 rw [Rat.intCast_mul,Rat.intCast_mul,Rat.intCast_mul]
 unfold vq at h
 generalize ((unitN:Int):Rat)=u at *
 generalize iuQ=z at *
 generalize (d:Rat)=D at *
 generalize (c:Rat)=E at *
 generalize ((V k:Int):Rat)=v at *
 have h1:v≤q*u:=by
   have:=Rat.mul_le_mul_of_nonneg_right h (Rat.le_of_lt up)
   have e2:v*z*u=v:=by
     have:v*z*u=v*(u*z):=by grind
     rw [this,io];grind
   rw [e2] at this
   exact this
 have h2:=Rat.mul_le_mul_of_nonneg_right h1 (Rat.le_of_lt dp)
 have e3:q*u*D=E*(u*u):=by
   have:q*u*D=(q*D)*u:=by grind
   rw [this,hr];grind
 rw [e3] at h2
 exact h2
theorem end_high {k:Int} {q:Rat} {c d:Int} (hd:0<d) (hr:q*(d:Rat)=(c:Rat)*((unitN:Int):Rat)) (h:q≤vq k):c*((2^(expN+expN):Nat):Int)≤V k*d:=by
 have h1:=end_low (k:=-k) (q:=-q) (c:=-c) hd (by rw [Rat.intCast_neg];grind) (by rw [vq_neg];grind)
 rw [V_neg] at h1
 generalize ((2^(expN+expN):Nat):Int)=P at *
 rw [Int.neg_mul,Int.neg_mul] at h1
 omega
theorem cmpZ_leD {a b:Int} (h:a≤b):decide (cmpZ a b≤0)=true:=by
 unfold cmpZ
 rw [decide_eq_true_eq]
 by_cases c:a<b
 · rw [if_pos c];omega
 · rw [if_neg c,if_neg (by omega)];omega
theorem cmpZ_geD {a b:Int} (h:b≤a):decide (cmpZ a b≥0)=true:=by
 unfold cmpZ
 rw [decide_eq_true_eq,if_neg (by omega)]
 split <;> omega
theorem fin_lo {k:Nat} {q:Rat} (hk:k<18446744073709551616) (f:finB k=true) (h:LoQ (key k) q):vq (key k)≤q:=by
 rcases h with h | h
 · have:=fin_key hk f
   omega
 · exact h
theorem fin_hi {k:Nat} {q:Rat} (hk:k<18446744073709551616) (f:finB k=true) (h:LoQ (-key k) (-q)):q≤vq (key k):=by
 rcases h with h | h
 · have:=fin_key hk f
   omega
 · rw [vq_neg] at h
   grind
end Go.Proofs.YtlabmpngbcnhpaaGreat
