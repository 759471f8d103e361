/- The law of the two series: the walk. -/
import Derived.Test.YtgfppdboogldlaaGreatZs51
namespace Go.Proofs.YtgfppdboogldlaaGreat
open Go.ChangeShapes Go.WideShapes Go.ChangeAt Go.RowKit
structure RowAt (W:World) (b o k b2 o2 C2:Nat) (x:Nat×Nat):Prop where
 l1:b<W.heap.size
 c:W.cell? ⟨b,o+k,none⟩=some (.slice (some ⟨b2,o2,none⟩) 1 C2)
 l2:b2<W.heap.size
 x0:W.cell? ⟨b2,o2,none⟩=some (.float .f64 x.1)
 x1:W.cell? ⟨b2,o2+1,none⟩=some (.float .f64 x.2)
theorem RowAt.keep {W W':World} {b o k b2 o2 C2:Nat} {x:Nat×Nat} (h:RowAt W b o k b2 o2 C2 x) (g:Below W.heap.size W W'):RowAt W' b o k b2 o2 C2 x :=
 ⟨Nat.lt_of_lt_of_le h.l1 g.size,keepsC g h.c h.l1,Nat.lt_of_lt_of_le h.l2 g.size,keepsC g h.x0 h.l2,keepsC g h.x1 h.l2⟩
theorem rowAt_of {W:World} {A:Option Addr} {n:Nat} {RA:Nat→Option Addr} {RC:Nat→Nat} {X:Nat→Nat×Nat} (R:Rws W A n RA (fun _=>1) RC (fun r _=>X r)) {k:Nat} (hk:k<n):∃b o b2 o2 C2,A=some ⟨b,o,none⟩∧RowAt W b o k b2 o2 C2 (X k):=by
 obtain⟨b,o,e,l,c, -,I⟩:=R k hk
 obtain⟨b2,o2,e2,l2,x0,x1, -⟩:=I 0 Nat.one_pos
 dsimp only at c
 rw [e2] at c
 simp only [Nat.zero_mul,Nat.add_zero] at x0 x1
 exact⟨b,o,b2,o2,_,e,l,c,l2,x0,x1⟩
theorem pow_first {W:World} {y:Value} {z:Int} (h:NumZ (-1074) 971 53 W y z):NumZ (-1074*((0+1:Nat):Int)) (971*((0+1:Nat):Int)) (53*(0+1)) W y (pwZ z (0+1)):=by
 have e:pwZ z (0+1)=z:=by show 1*z=z;exact Int.one_mul z
 rw [e]
 exact h
theorem pow_next {W:World} {y t:Value} {z:Int} {k:Nat} (hk:k≤13) (h:NumZ (-1074*((k+1:Nat):Int)) (971*((k+1:Nat):Int)) (53*(k+1)) W y (pwZ z (k+1))) (f:NumZ (-1074) 971 53 W t z) :
   Calls Tryz.prog 17 #[y,t] W fun r w'=>(∃v,r=.returned v∧NumZ (-1074*((k+1+1:Nat):Int)) (971*((k+1+1:Nat):Int)) (53*(k+1+1)) w' v (pwZ z (k+1+1)))∧Below W.heap.size W w':=by
 have c:=prod2_z (by omega) (by omega) (by omega) (by omega) (by omega) h f
 rw [show -1074*((k+1:Nat):Int)+-1074=-1074*((k+1+1:Nat):Int) by omega,show 971*((k+1:Nat):Int)+971=971*((k+1+1:Nat):Int) by omega,show 53*(k+1)+53=53*(k+1+1) by omega] at c
 exact c
set_option maxHeartbeats 8000000 in
set_option maxRecDepth 4000 in
theorem tsq_in (v:Nat) (hv:v<18446744073709551616) (order:Nat) (ho:order≤12) (e3 b4 b5:Bool) (hb:e3=false∨b4=false∨b5=false) (w:World) (l1:leB 13848568854164275200 v=true) (l2:leB v 4625196817309499392=true)
   (o1:(FloatKind.f64.format.order v 13848568854164275200==some .gt || FloatKind.f64.format.order v 13848568854164275200==some .eq)=true)
   (o2:(FloatKind.f64.format.order v 4625196817309499392==some .lt || FloatKind.f64.format.order v 4625196817309499392==some .eq)=true)
   (o3:(FloatKind.f64.format.order v 0 != some .eq)=e3) (o4:(FloatKind.f64.format.order v 4562254508917369340==some .lt)=b4) (o5:(FloatKind.f64.format.order v 13785626545772145148==some .gt)=b5) :
   Calls Tryz.prog 4 #[.float .f64 v,.int .i64 (order:Int)] w fun e w'=>e=.returned (.bool true)∧Below w.heap.size w w':=by
 have d1:decide ((order:Int)<0)=false:=decide_eq_false (by omega)
 have d2:decide ((12:Int)<(order:Int))=false:=decide_eq_false (by omega)
 have lto:(order:Int)≤12:=by omega
 have cm:=fun W=>rmake_w v v hv hv W
 obtain⟨HX,fv⟩:=box_of hv l1 l2
 clear l1 l2
 have cF:=fun W=>float_z v hv fv W
 clear fv
 generalize makeP v v=x at *
 go_enter Tryz.func4,Tryz.ntmps4
 go_upto_region 1 with fail
 go_cut [40] from 14 to 40 (fun s40 wx=>s40=.bool false∧wx=w)
 case first =>
   clear cm HX cF
   rcases hb with rfl | rfl | rfl
   · go_wp2_with fail
     go_meet
     case rel=>exact⟨rfl,rfl⟩
   · cases e3
     all_goals
       go_wp2_with fail
       go_meet
       case rel=>exact⟨rfl,rfl⟩
   · cases e3
     case' true=>cases b4
     all_goals
       go_wp2_with fail
       go_meet
       case rel=>exact⟨rfl,rfl⟩
 case rest =>
   obtain⟨rfl,rfl⟩:=hcut
   clear o1 o2 o3 o4 o5 d1 d2 hb
   go_upto_region 4 with (go_at_call 15;(with_reducible refine (cm _).mono ?_);rintro _ W1 ⟨rfl,hb1⟩)
   clear cm
   go_upto_region 6 with fail
   have hs:=seven W1 (.cells #[.float .f64 x.1,.float .f64 x.2] 43) (.cells #[.int .i64 2,.int .i64 0,.int .i64 0,.int .i64 0,.float .f64 0,.float .f64 0,.int .i64 5,.int .i64 0,.int .i64 0,.int .i64 0,.float .f64 0,.float .f64 0] 45) (.cells #[.int .i64 1] 3) (.cells #[.int .i64 1,.slice (some ⟨W1.heap.size+1,0,none⟩) 2 2,.slice (some ⟨W1.heap.size+1+1,0,none⟩) 1 1] 25) (.cells #[.int .i64 2,.int .i64 0,.int .i64 0,.int .i64 0,.float .f64 0,.float .f64 0] 45) (.cells #[.int .i64 0] 3) (.cells #[.int .i64 1,.slice (some ⟨W1.heap.size+1+1+1+1,0,none⟩) 1 1,.slice (some ⟨W1.heap.size+1+1+1+1+1,0,none⟩) 1 1] 25)
   dsimp only at hs
   obtain⟨m0,m1,m2,m3,m4,m5,m6,hb2⟩:=hs
   have L:=lay_of HX.w m0 m1 m2 m3 m4 m5 m6
   have HB:=later hb1 hb2
   clear m0 m1 m2 m3 m4 m5 m6 hb1 hb2
   generalize ((((((W1.alloc (.cells #[.float .f64 x.1,.float .f64 x.2] 43)).alloc (.cells #[.int .i64 2,.int .i64 0,.int .i64 0,.int .i64 0,.float .f64 0,.float .f64 0,.int .i64 5,.int .i64 0,.int .i64 0,.int .i64 0,.float .f64 0,.float .f64 0] 45)).alloc (.cells #[.int .i64 1] 3)).alloc (.cells #[.int .i64 1,.slice (some ⟨W1.heap.size+1,0,none⟩) 2 2,.slice (some ⟨W1.heap.size+1+1,0,none⟩) 1 1] 25)).alloc (.cells #[.int .i64 2,.int .i64 0,.int .i64 0,.int .i64 0,.float .f64 0,.float .f64 0] 45)).alloc (.cells #[.int .i64 0] 3)).alloc (.cells #[.int .i64 1,.slice (some ⟨W1.heap.size+1+1+1+1,0,none⟩) 1 1,.slice (some ⟨W1.heap.size+1+1+1+1+1,0,none⟩) 1 1] 25)=W2 at *
   generalize W1.heap.size=q at *
   have c1:=coefs_sq L HX order ho
   obtain⟨t0,t1,t2,tl⟩:=id L.T1
   unfold tapeV at c1
   go_upto_region 7 with (go_at_call 9;(with_reducible refine c1.mono ?_);rintro _ W3 ⟨⟨A,C,RA,RC,rfl,R⟩,hb1⟩;replace L:=L.keep hb1;replace HB:=later HB hb1;clear hb1 t0 t1 t2 tl)
   clear c1
   have c2:=coefs_ex L HX order ho
   obtain⟨t0,t1,t2,tl⟩:=id L.T2
   unfold tapeV at c2
   have lc:((order+1:Nat):Int)=(order:Int)+1:=by omega
   go_upto_region 10 with (go_at_call 9;(with_reducible refine c2.mono ?_);rintro _ W4 ⟨⟨A',C',RA',RC',rfl,R'⟩,hb1⟩;replace R:=R.keep hb1;replace HB:=later HB hb1;clear hb1 t0 t1 t2 tl)
   clear c2 L
   go_upto_region 12 with (go_at_call 11;(with_reducible refine (cF _).mono ?_);rintro _ W5 ⟨⟨v5,rfl,N5⟩,hb1⟩;obtain⟨g5,a5,l5,k5,e5,rfl⟩:=N5.shape;replace R:=R.keep hb1;replace R':=R'.keep hb1;replace HB:=later HB hb1;clear hb1)
   have HW:=grewQ W5 (.cells #[.bool g5,.slice a5 l5 k5,.int .i64 e5] 40)
   have P:NB (W5.alloc (.cells #[.bool g5,.slice a5 l5 k5,.int .i64 e5] 40)) W5.heap.size ⟨g5,a5,l5,k5,e5⟩ (-1074*((0+1:Nat):Int)) (971*((0+1:Nat):Int)) (53*(0+1)) (pwZ (V (key v)) (0+1)):=⟨h3_newQ W5 _ _ _ _,Boxed.new W5 _,pow_first (N5.keep HW)⟩
   clear N5
   generalize W5.alloc (.cells #[.bool g5,.slice a5 l5 k5,.int .i64 e5] 40)=V6 at *
   obtain⟨pb,hpb⟩:∃pb,pb=W5.heap.size:=⟨_,rfl⟩
   rw [←hpb]
   rw [←hpb] at P
   replace hpb:Hid (pb=W5.heap.size):=hpb
   go_loopg [92] (order+1) (fun G s92 wx=>∃(k:Nat) (u:Nv),s92=.int .i64 (k:Int)∧k+G=order+1∧NB wx pb u (-1074*((k+1:Nat):Int)) (971*((k+1:Nat):Int)) (53*(k+1)) (pwZ (V (key v)) (k+1))∧Below W5.heap.size W5 wx)
   case atStart=>exact⟨0,_,rfl,by omega,P,HW⟩
   case round =>
     clear P HW
     obtain⟨k,⟨ug,ua,ul,uc,ue⟩,rfl,hk,P,HW⟩:=hrel
     by_cases c:k<order+1
     · have ci:(k:Int)<(order:Int)+1:=by omega
       obtain⟨b1,o1,b2,o2,C2,rfl,r⟩:=rowAt_of (R.keep HW) c
       obtain⟨b3,o3,b4,o4,C4,rfl,r'⟩:=rowAt_of (R'.keep HW) c
       have hq1:Hq ((sqX x k).1,(sqX x k).2) (pwR (vq (key v)) (k+1)):=(sq_hi HX k k (Nat.le_refl _) (by omega)).h
       have hq2:Hq ((exX x k).1,(exX x k).2) (exQR (vq (key v)) k):=(ex_hi HX k (by omega)).h
       have cI:=fun W=>int_z W
       have cA:=fun W=>fac_w k (by omega) W
       clear R R'
       go_upto_region 14 with fail
       go_cut [118] from 95 to 118 (fun s118 wx=>s118=.bool false∧NB wx pb ⟨ug,ua,ul,uc,ue⟩ (-1074*((k+1:Nat):Int)) (971*((k+1:Nat):Int)) (53*(k+1)) (pwZ (V (key v)) (k+1))∧Below W5.heap.size W5 wx)
       case first =>
         have hb1:Below wr.heap.size wr wr.drew:=(Below.refl _ _).drew
         replace r:=r.keep hb1;replace r':=r'.keep hb1;replace P:=P.keep hb1;replace HW:=later HW hb1
         clear hb1
         refine wp_region_held_drew (S:=fun w'=>w'.cell? ⟨b1,o1+k,none⟩=some (.slice (some ⟨b2,o2,none⟩) 1 C2)∧w'.cell? ⟨b2,o2,none⟩=some (.float .f64 (sqX x k).1)∧w'.cell? ⟨b2,o2+1,none⟩=some (.float .f64 (sqX x k).2)∧w'.cell? ⟨pb,0,none⟩=some (.bool ug)∧w'.cell? ⟨pb,1,none⟩=some (.slice ua ul uc)∧w'.cell? ⟨pb,2,none⟩=some (.int .i64 ue)∧w'.cell? ⟨b3,o3+k,none⟩=some (.slice (some ⟨b4,o4,none⟩) 1 C4)∧w'.cell? ⟨b4,o4,none⟩=some (.float .f64 (exX x k).1)∧w'.cell? ⟨b4,o4+1,none⟩=some (.float .f64 (exX x k).2)) (by kernel_rfl) ⟨r.c,r.x0,r.x1,P.h.1,P.h.2.1,P.h.2.2.1,r'.c,r'.x0,r'.x1⟩ (fun hHeld=>?_)
         generalize wr.drew=V7 at *
         refine wpAnyH_take (i:=0) (v:=?_) rfl (by kernel_rfl) (by kernel_rfl) (by kernel_rfl) (fun _ _ _ h=>h) (Or.inl ⟨by rfl, ?_⟩) hHeld ?_;rotate_left;(focus ((intro w hSw;(try dsimp only at hSw);go_simp);try with_reducible rfl));simp only [List.getElem_toArray,List.getElem_cons_zero,Act.put,List.setIfInBounds_toArray,List.set_cons_zero,List.set_cons_succ];refine wpAnyH_take (i:=1) (v:=?_) rfl (by kernel_rfl) (by kernel_rfl) (by kernel_rfl) (fun _ _ _ h=>h) (Or.inl ⟨by rfl, ?_⟩) hHeld ?_;rotate_left;(focus ((intro w hSw;(try dsimp only at hSw);go_simp);try with_reducible rfl));simp only [List.getElem_toArray,List.getElem_cons_zero,List.getElem_cons_succ,Act.put,List.setIfInBounds_toArray,List.set_cons_zero,List.set_cons_succ];refine wpAnyH_take (i:=2) (v:=?_) rfl (by kernel_rfl) (by kernel_rfl) (by kernel_rfl) (fun _ _ _ h=>h) (Or.inl ⟨by rfl, ?_⟩) hHeld ?_;rotate_left;(focus ((intro w hSw;(try dsimp only at hSw);go_simp);try with_reducible rfl));simp only [List.getElem_toArray,List.getElem_cons_zero,List.getElem_cons_succ,Act.put,List.setIfInBounds_toArray,List.set_cons_zero,List.set_cons_succ];refine wpAnyH_take (i:=3) (v:=?_) rfl (by kernel_rfl) (by kernel_rfl) (by kernel_rfl) (fun _ _ _ h=>h) (Or.inl ⟨by rfl, ?_⟩) hHeld ?_;rotate_left;(focus ((intro w hSw;(try dsimp only at hSw);go_simp);try with_reducible rfl));simp only [List.getElem_toArray,List.getElem_cons_zero,List.getElem_cons_succ,Act.put,List.setIfInBounds_toArray,List.set_cons_zero,List.set_cons_succ];refine wpAnyH_take (i:=4) (v:=?_) rfl (by kernel_rfl) (by kernel_rfl) (by kernel_rfl) (fun _ _ _ h=>h) (Or.inl ⟨by rfl, ?_⟩) hHeld ?_;rotate_left;(focus ((intro w hSw;(try dsimp only at hSw);go_simp);try with_reducible rfl));simp only [List.getElem_toArray,List.getElem_cons_zero,List.getElem_cons_succ,Act.put,List.setIfInBounds_toArray,List.set_cons_zero,List.set_cons_succ];refine wpAnyH_take (i:=5) (v:=?_) rfl (by kernel_rfl) (by kernel_rfl) (by kernel_rfl) (fun _ _ _ h=>h) (Or.inl ⟨by rfl, ?_⟩) hHeld ?_;rotate_left;(focus ((intro w hSw;(try dsimp only at hSw);go_simp);try with_reducible rfl));simp only [List.getElem_toArray,List.getElem_cons_zero,List.getElem_cons_succ,Act.put,List.setIfInBounds_toArray,List.set_cons_zero,List.set_cons_succ];refine wpAnyH_take (i:=6) (v:=?_) rfl (by kernel_rfl) (by kernel_rfl) (by kernel_rfl) (fun _ _ _ h=>h) (Or.inl ⟨by rfl, ?_⟩) hHeld ?_;rotate_left;(focus ((intro w hSw;(try dsimp only at hSw);go_simp);try with_reducible rfl));simp only [List.getElem_toArray,List.getElem_cons_zero,List.getElem_cons_succ,Act.put,List.setIfInBounds_toArray,List.set_cons_zero,List.set_cons_succ]
         refine wpAnyH_ready (rs:=[7]) (by kernel_rfl) (by simp) ?_;refine AllReadyH.cons rfl (fun K hK=>?_) AllReadyH.nil;simp only [List.getElem_toArray,List.getElem_cons_zero,List.getElem_cons_succ,Act.put,List.setIfInBounds_toArray,List.set_cons_zero,List.set_cons_succ];go_simp
         go_at_call 16
         (with_reducible refine (cI _).mono ?_)
         rintro _ W6 ⟨⟨v6,rfl,N6⟩,hb1⟩
         obtain⟨g6,a6,l6,k6,e6,rfl⟩:=N6.shape
         replace r:=r.keep hb1;replace r':=r'.keep hb1;replace P:=P.keep hb1;replace HW:=later HW hb1
         clear hb1
         dsimp only
         refine hK.out _ _ ⟨r.c,r.x0,r.x1,P.h.1,P.h.2.1,P.h.2.2.1,r'.c,r'.x0,r'.x1⟩ (fun hHeld=>?_)
         clear hK K
         refine wpAnyH_ready (rs:=[8]) (by kernel_rfl) (by simp) ?_;refine AllReadyH.cons rfl (fun K hK=>?_) AllReadyH.nil;simp only [List.getElem_toArray,List.getElem_cons_zero,List.getElem_cons_succ,Act.put,List.setIfInBounds_toArray,List.set_cons_zero,List.set_cons_succ];go_simp
         go_at_call 13
         (with_reducible refine (hq_power (by omega) hq1 (by omega) P.n N6).mono ?_)
         rintro _ W7 ⟨rfl,hb1⟩
         replace r:=r.keep hb1;replace r':=r'.keep hb1;replace P:=P.keep hb1;replace HW:=later HW hb1
         clear hb1
         dsimp only
         refine hK.out _ _ ⟨r.c,r.x0,r.x1,P.h.1,P.h.2.1,P.h.2.2.1,r'.c,r'.x0,r'.x1⟩ (fun hHeld=>?_)
         clear hK K
         clear N6
         refine wpAnyH_take (i:=9) (v:=?_) rfl (by kernel_rfl) (by kernel_rfl) (by kernel_rfl) (fun _ _ _ h=>h) (Or.inl ⟨by rfl, ?_⟩) hHeld ?_;rotate_left;(focus ((intro w hSw;(try dsimp only at hSw);go_simp);try with_reducible rfl));simp only [List.getElem_toArray,List.getElem_cons_zero,List.getElem_cons_succ,Act.put,List.setIfInBounds_toArray,List.set_cons_zero,List.set_cons_succ];refine wpAnyH_take (i:=10) (v:=?_) rfl (by kernel_rfl) (by kernel_rfl) (by kernel_rfl) (fun _ _ _ h=>h) (Or.inl ⟨by rfl, ?_⟩) hHeld ?_;rotate_left;(focus ((intro w hSw;(try dsimp only at hSw);go_simp);try with_reducible rfl));simp only [List.getElem_toArray,List.getElem_cons_zero,List.getElem_cons_succ,Act.put,List.setIfInBounds_toArray,List.set_cons_zero,List.set_cons_succ];refine wpAnyH_take (i:=11) (v:=?_) rfl (by kernel_rfl) (by kernel_rfl) (by kernel_rfl) (fun _ _ _ h=>h) (Or.inl ⟨by rfl, ?_⟩) hHeld ?_;rotate_left;(focus ((intro w hSw;(try dsimp only at hSw);go_simp);try with_reducible rfl));simp only [List.getElem_toArray,List.getElem_cons_zero,List.getElem_cons_succ,Act.put,List.setIfInBounds_toArray,List.set_cons_zero,List.set_cons_succ];refine wpAnyH_take (i:=12) (v:=?_) rfl (by kernel_rfl) (by kernel_rfl) (by kernel_rfl) (fun _ _ _ h=>h) (Or.inl ⟨by rfl, ?_⟩) hHeld ?_;rotate_left;(focus ((intro w hSw;(try dsimp only at hSw);go_simp);try with_reducible rfl));simp only [List.getElem_toArray,List.getElem_cons_zero,List.getElem_cons_succ,Act.put,List.setIfInBounds_toArray,List.set_cons_zero,List.set_cons_succ];refine wpAnyH_take (i:=13) (v:=?_) rfl (by kernel_rfl) (by kernel_rfl) (by kernel_rfl) (fun _ _ _ h=>h) (Or.inl ⟨by rfl, ?_⟩) hHeld ?_;rotate_left;(focus ((intro w hSw;(try dsimp only at hSw);go_simp);try with_reducible rfl));simp only [List.getElem_toArray,List.getElem_cons_zero,List.getElem_cons_succ,Act.put,List.setIfInBounds_toArray,List.set_cons_zero,List.set_cons_succ];refine wpAnyH_take (i:=14) (v:=?_) rfl (by kernel_rfl) (by kernel_rfl) (by kernel_rfl) (fun _ _ _ h=>h) (Or.inl ⟨by rfl, ?_⟩) hHeld ?_;rotate_left;(focus ((intro w hSw;(try dsimp only at hSw);go_simp);try with_reducible rfl));simp only [List.getElem_toArray,List.getElem_cons_zero,List.getElem_cons_succ,Act.put,List.setIfInBounds_toArray,List.set_cons_zero,List.set_cons_succ];refine wpAnyH_take (i:=15) (v:=?_) rfl (by kernel_rfl) (by kernel_rfl) (by kernel_rfl) (fun _ _ _ h=>h) (Or.inl ⟨by rfl, ?_⟩) hHeld ?_;rotate_left;(focus ((intro w hSw;(try dsimp only at hSw);go_simp);try with_reducible rfl));simp only [List.getElem_toArray,List.getElem_cons_zero,List.getElem_cons_succ,Act.put,List.setIfInBounds_toArray,List.set_cons_zero,List.set_cons_succ];refine wpAnyH_take (i:=16) (v:=?_) rfl (by kernel_rfl) (by kernel_rfl) (by kernel_rfl) (fun _ _ _ h=>h) (Or.inl ⟨by rfl, ?_⟩) hHeld ?_;rotate_left;(focus ((intro w hSw;(try dsimp only at hSw);go_simp);try with_reducible rfl));simp only [List.getElem_toArray,List.getElem_cons_zero,List.getElem_cons_succ,Act.put,List.setIfInBounds_toArray,List.set_cons_zero,List.set_cons_succ];refine wpAnyH_take (i:=17) (v:=?_) rfl (by kernel_rfl) (by kernel_rfl) (by kernel_rfl) (fun _ _ _ h=>h) (Or.inl ⟨by rfl, ?_⟩) hHeld ?_;rotate_left;(focus ((intro w hSw;(try dsimp only at hSw);go_simp);try with_reducible rfl));simp only [List.getElem_toArray,List.getElem_cons_zero,List.getElem_cons_succ,Act.put,List.setIfInBounds_toArray,List.set_cons_zero,List.set_cons_succ];refine wpAnyH_take (i:=19) (v:=?_) rfl (by kernel_rfl) (by kernel_rfl) (by kernel_rfl) (fun _ _ _ h=>h) (Or.inl ⟨by rfl, ?_⟩) hHeld ?_;rotate_left;(focus ((intro w hSw;(try dsimp only at hSw);go_simp);try with_reducible rfl));simp only [List.getElem_toArray,List.getElem_cons_zero,List.getElem_cons_succ,Act.put,List.setIfInBounds_toArray,List.set_cons_zero,List.set_cons_succ]
         refine wpAnyH_ready (rs:=[18]) (by kernel_rfl) (by simp) ?_;refine AllReadyH.cons rfl (fun K hK=>?_) AllReadyH.nil;simp only [List.getElem_toArray,List.getElem_cons_zero,List.getElem_cons_succ,Act.put,List.setIfInBounds_toArray,List.set_cons_zero,List.set_cons_succ];go_simp
         go_at_call 11
         (with_reducible refine (cF _).mono ?_)
         rintro _ W8 ⟨⟨v8,rfl,N8⟩,hb1⟩
         obtain⟨g8,a8,l8,k8,e8,rfl⟩:=N8.shape
         replace r:=r.keep hb1;replace r':=r'.keep hb1;replace P:=P.keep hb1;replace HW:=later HW hb1
         clear hb1
         dsimp only
         refine hK.out _ _ ⟨r.c,r.x0,r.x1,P.h.1,P.h.2.1,P.h.2.2.1,r'.c,r'.x0,r'.x1⟩ (fun hHeld=>?_)
         clear hK K
         refine wpAnyH_ready (rs:=[20]) (by kernel_rfl) (by simp) ?_;refine AllReadyH.cons rfl (fun K hK=>?_) AllReadyH.nil;simp only [List.getElem_toArray,List.getElem_cons_zero,List.getElem_cons_succ,Act.put,List.setIfInBounds_toArray,List.set_cons_zero,List.set_cons_succ];go_simp
         go_at_call 14
         (with_reducible refine (cA _).mono ?_)
         rintro _ W9 ⟨⟨v9,rfl,N9⟩,hb1⟩
         obtain⟨g9,a9,l9,k9,e9,rfl⟩:=N9.shape
         replace r:=r.keep hb1;replace r':=r'.keep hb1;replace P:=P.keep hb1;replace HW:=later HW hb1
         replace N8:=N8.keep hb1;clear hb1
         dsimp only
         refine hK.out _ _ ⟨r.c,r.x0,r.x1,P.h.1,P.h.2.1,P.h.2.2.1,r'.c,r'.x0,r'.x1⟩ (fun hHeld=>?_)
         clear hK K
         refine wpAnyH_ready (rs:=[21]) (by kernel_rfl) (by simp) ?_;refine AllReadyH.cons rfl (fun K hK=>?_) AllReadyH.nil;simp only [List.getElem_toArray,List.getElem_cons_zero,List.getElem_cons_succ,Act.put,List.setIfInBounds_toArray,List.set_cons_zero,List.set_cons_succ];go_simp
         go_at_call 13
         (with_reducible refine (hq_factor hq2 N8 N9).mono ?_)
         rintro _ W10 ⟨rfl,hb1⟩
         replace r:=r.keep hb1;replace r':=r'.keep hb1;replace P:=P.keep hb1;replace HW:=later HW hb1
         clear hb1
         dsimp only
         refine hK.out _ _ ⟨r.c,r.x0,r.x1,P.h.1,P.h.2.1,P.h.2.2.1,r'.c,r'.x0,r'.x1⟩ (fun hHeld=>?_)
         clear hK K
         refine wpAnyH_take (i:=22) (v:=?_) rfl (by kernel_rfl) (by kernel_rfl) (by kernel_rfl) (fun _ _ _ h=>h) (Or.inl ⟨by rfl, ?_⟩) hHeld ?_;rotate_left;(focus ((intro w hSw;(try dsimp only at hSw);go_simp);try with_reducible rfl));simp only [List.getElem_toArray,List.getElem_cons_zero,List.getElem_cons_succ,Act.put,List.setIfInBounds_toArray,List.set_cons_zero,List.set_cons_succ];refine wpAnyH_take (i:=23) (v:=?_) rfl (by kernel_rfl) (by kernel_rfl) (by kernel_rfl) (fun _ _ _ h=>h) (Or.inl ⟨by rfl, ?_⟩) hHeld ?_;rotate_left;(focus ((intro w hSw;(try dsimp only at hSw);go_simp);try with_reducible rfl));simp only [List.getElem_toArray,List.getElem_cons_zero,List.getElem_cons_succ,Act.put,List.setIfInBounds_toArray,List.set_cons_zero,List.set_cons_succ]
         refine wpAnyH_done (by kernel_rfl) ?_ _
         go_wp2_with fail
         go_meet
         case rel=>exact⟨rfl,P,HW⟩
       case rest =>
         clear P HW r r' hq1 hq2 cI cA
         obtain⟨rfl,P,HW⟩:=hcut
         go_upto_region 16 with fail
         have hb1:Below wc.heap.size wc wc.drew:=(Below.refl _ _).drew
         replace P:=P.keep hb1;replace HW:=later HW hb1
         clear hb1
         refine held_tail 4 (fun w'=>w'.cell? ⟨pb,0,none⟩=some (.bool ug)∧w'.cell? ⟨pb,1,none⟩=some (.slice ua ul uc)∧w'.cell? ⟨pb,2,none⟩=some (.int .i64 ue)) (by kernel_rfl) (by kernel_rfl) ⟨P.h.1,P.h.2.1,P.h.2.2.1⟩ (fun hHeld=>?_)
         generalize wc.drew=V8 at *
         simp only [List.take_succ_cons,List.take_zero]
         refine wpAnyH_take (i:=0) (v:=?_) rfl (by kernel_rfl) (by kernel_rfl) (by kernel_rfl) (fun _ _ _ h=>h) (Or.inl ⟨by rfl, ?_⟩) hHeld ?_;rotate_left;(focus ((intro w hSw;(try dsimp only at hSw);go_simp);try with_reducible rfl));simp only [List.getElem_toArray,List.getElem_cons_zero,Act.put,List.setIfInBounds_toArray,List.set_cons_zero,List.set_cons_succ];refine wpAnyH_take (i:=1) (v:=?_) rfl (by kernel_rfl) (by kernel_rfl) (by kernel_rfl) (fun _ _ _ h=>h) (Or.inl ⟨by rfl, ?_⟩) hHeld ?_;rotate_left;(focus ((intro w hSw;(try dsimp only at hSw);go_simp);try with_reducible rfl));simp only [List.getElem_toArray,List.getElem_cons_zero,List.getElem_cons_succ,Act.put,List.setIfInBounds_toArray,List.set_cons_zero,List.set_cons_succ]
         refine wpAnyH_ready (rs:=[2]) (by kernel_rfl) (by simp) ?_;refine AllReadyH.cons rfl (fun K hK=>?_) AllReadyH.nil;simp only [List.getElem_toArray,List.getElem_cons_zero,List.getElem_cons_succ,Act.put,List.setIfInBounds_toArray,List.set_cons_zero,List.set_cons_succ];go_simp
         go_at_call 11
         (with_reducible refine (cF _).mono ?_)
         rintro _ W6 ⟨⟨v6,rfl,N6⟩,hb1⟩
         obtain⟨g6,a6,l6,k6,e6,rfl⟩:=N6.shape
         replace P:=P.keep hb1;replace HW:=later HW hb1
         clear hb1
         dsimp only
         refine hK.out _ _ ⟨P.h.1,P.h.2.1,P.h.2.2.1⟩ (fun hHeld=>?_)
         clear hK K
         refine wpAnyH_ready (rs:=[3]) (by kernel_rfl) (by simp) ?_;refine AllReadyH.cons rfl (fun K hK=>?_) AllReadyH.nil;simp only [List.getElem_toArray,List.getElem_cons_zero,List.getElem_cons_succ,Act.put,List.setIfInBounds_toArray,List.set_cons_zero,List.set_cons_succ];go_simp
         have cp:=pow_next (by omega) P.n N6
         dsimp only [Nv.val] at cp
         go_at_call 17
         (with_reducible refine cp.mono ?_)
         rintro _ W7 ⟨⟨v7,rfl,N7⟩,hb1⟩
         obtain⟨g7,a7,l7,k7,e7,rfl⟩:=N7.shape
         replace P:=P.keep hb1;replace HW:=later HW hb1
         clear hb1 N6 cp
         dsimp only
         refine hK.out _ _ ⟨P.h.1,P.h.2.1,P.h.2.2.1⟩ (fun hHeld=>?_)
         clear hK K
         refine wpAnyH_done (by kernel_rfl) ?_ _
         simp only [HeadQ,List.drop_succ_cons,List.drop_zero]
         obtain⟨p0,p1,p2,p3,p4,p5,p6⟩:=id P.h
         dsimp only at p0 p1 p2
         have P2:=P.put ⟨g7,a7,l7,k7,e7⟩ N7
         have HW2:=below_set3 HW (b:=pb) (by rw [hpb.out];exact Nat.le_refl _) (.bool g7) (.slice a7 l7 k7) (.int .i64 e7)
         clear P HW N7
         dsimp only at P2
         go_wp2_with fail
         obtain⟨g,rfl⟩:∃g,gk=g+1:=⟨gk-1,by omega⟩
         go_roundg g
         case measure=>omega
         case rel=>exact⟨k+1,⟨g7,a7,l7,k7,e7⟩,by go_num,by omega,P2,HW2⟩
     · obtain rfl:k=order+1:=by omega
       have ci:¬((order:Int)+1)<(order:Int)+1:=by omega
       clear P R R' cF HX
       go_wp2_with fail
       go_ret
       exact⟨rfl,later HB HW⟩
end Go.Proofs.YtgfppdboogldlaaGreat
