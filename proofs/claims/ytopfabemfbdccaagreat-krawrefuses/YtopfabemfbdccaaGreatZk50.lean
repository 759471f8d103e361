/- The middles of a matrix of intervals. The greatest amount of a row of intervals; balls about nought. Balls about nought: rows of intervals, whatever they hold. lin.Inverse: it ends: refused, or a square of intervals. kraw: One less a matrix. kraw: Krawczyk's operator answers a vector, or an error. -/
import Derived.Test.YtopfabemfbdccaaGreatZk29
import Derived.Test.YtopfabemfbdccaaGreatZk23
import Derived.Test.YtopfabemfbdccaaGreatZk48
import Derived.Test.YtopfabemfbdccaaGreatZk49
import Derived.Test.YtopfabemfbdccaaGreatZk46
import Derived.Test.YtopfabemfbdccaaGreatZk45
import Derived.Test.YtopfabemfbdccaaGreatZk22
namespace Go.Proofs.YtopfabemfbdccaaGreat
open Go.ChangeShapes Go.WideShapes Go.ChangeAt Go.RowKit
theorem midP_wd (lo hi:Nat) (hl:lo<18446744073709551616) (hh:hi<18446744073709551616):midP lo hi<18446744073709551616:=by
 unfold midP
 have a:=(midM_facts lo hi).2.2
 have b:midLo lo<18446744073709551616:=by unfold midLo;rcases (maxW_key lo 18442240474082181119).2 with c | c <;> rw [c] <;> omega
 have c:midHi hi<18446744073709551616:=by unfold midHi;rcases (minW_key hi 9218868437227405311).2 with c | c <;> rw [c] <;> omega
 split
 ·split
  ·exact b
  ·split
   ·exact c
   ·exact a
 ·omega
set_option maxHeartbeats 4000000 in
theorem middles_w (A:Option Addr) (N M C:Nat) (RA:Nat->Option Addr) (RL RC:Nat->Nat) (X:Nat->Nat->Nat×Nat) (hN:N<=24) (hN0:0<N) (hM:M<=24) (hM0:0<M) (hR:∀r,r<N->RL r=M) (w:World) (V:Rws w A N RA RL RC X) :
  Calls Tryz.prog 254 #[.slice A N C] w fun e w'=>∃g h,e=.returned (.slice (some ⟨g,0,none⟩) N N)/\Tab w.heap.size w' g N M h/\w.heap.size<=g/\Below w.heap.size w w':=by
 have HR:Hid (∀r,r<N->RL r=M):=hR
 have h4:(0:Int)<(N:Int):=by omega
 obtain⟨b,o,hA,hb,x0, -, -⟩:=V 0 hN0
 rw [Nat.add_zero,hR 0 hN0] at x0
 clear hR
 have cg:=fun w=>gridF_w N M hN (by omega) w
 subst hA
 go_enter Tryz.func254,Tryz.ntmps254
 go_wp2_with (go_at_call 282;refine (cg _).mono ?_;rintro _ w1 ⟨g,h,rfl,G0,hg,HB⟩)
 have HG:Hid (Tab w.heap.size w1 g N M h):=G0
 clear x0 cg G0
 go_loopg [17] N (fun G s17 wx=>Below w.heap.size w wx/\∃i:Nat,i+G=N/\s17=.int .i64 (i:Int)/\Hid (Tab w.heap.size wx g N M h))
 case atStart=>exact⟨HB,0,by omega,rfl,HG⟩
 case round =>
  clear HB HG
  obtain⟨HB,i,hi,rfl,HG⟩:=hrel
  by_cases ci:i=N
  ·subst ci
   go_wp2_with fail
   go_ret
   exact⟨g,h,rfl,HG,hg,HB⟩
  ·have hlti:(i:Int)<(N:Int):=by omega
   obtain⟨b1,o1,hA1,lb1,v0, -,I⟩:=(V.keep HB) i (by omega)
   rw [HR.out i (by omega)] at v0 I
   simp only [Option.some.injEq,Addr.mk.injEq,and_true] at hA1
   obtain⟨rfl,rfl⟩:=hA1
   obtain⟨b3,o3,hA3, -⟩:=I 0 hM0
   rw [hA3] at v0
   have HA3:Hid (RA i=some ⟨b3,o3,none⟩):=hA3
   clear I hA3
   go_wp2_with fail
   clear v0
   go_loopg [24] M (fun G s24 wy=>Below w.heap.size w wy/\∃j:Nat,j+G=M/\s24=.int .i64 (j:Int)/\Hid (Tab w.heap.size wy g N M h))
   case atStart=>exact⟨HB,0,by omega,rfl,HG⟩
   case round =>
    clear HB HG
    obtain⟨HB,j,hj,rfl,HG⟩:=hrel
    by_cases cj:j=M
    ·subst cj
     go_wp2_with fail
     go_roundg (N-i-1)
     case measure=>omega
     case rel=>exact⟨HB,i+1,by omega,by go_num,HG⟩
    ·have hltj:(j:Int)<(M:Int):=by omega
     obtain⟨b2,o2, -,lb2,v0, -,I⟩:=(V.keep HB) i (by omega)
     rw [HR.out i (by omega)] at I
     obtain⟨b4,o4,hA4,lb3,v1,v2,w1,w2⟩:=I j (by omega)
     rw [HA3.out] at hA4
     simp only [Option.some.injEq,Addr.mk.injEq,and_true] at hA4
     obtain⟨rfl,rfl⟩:=hA4
     have cm:=fun w=>Mid_w (X i j).1 (X i j).2 w1 w2 w
     have hmw:=midP_wd (X i j).1 (X i j).2 w1 w2
     generalize X i j=x at *
     clear I v0 lb2
     go_upto_region 8 with fail
     have HB1:Below w.heap.size w (wr.alloc (Obj.cells #[.float .f64 x.1,.float .f64 x.2] 24)):=below_alloc HB _
     have HG1:Hid (Tab w.heap.size (wr.alloc (Obj.cells #[.float .f64 x.1,.float .f64 x.2] 24)) g N M h):=HG.out.keep ((Below.refl _ _).alloc (Nat.le_refl _) _)
     have X2:Has2 (wr.alloc (Obj.cells #[.float .f64 x.1,.float .f64 x.2] 24)) wr.heap.size (.float .f64 x.1) (.float .f64 x.2):=⟨by go_simp,by go_simp,by go_simp,by go_simp,by go_size⟩
     clear v1 v2 HB HG lb3
     generalize wr.alloc (Obj.cells #[.float .f64 x.1,.float .f64 x.2] 24)=V1 at *
     generalize wr.heap.size=bx at *
     generalize midP x.1 x.2=mm at *
     obtain⟨g0, -⟩:=HG1.out.out.2 i (by omega)
     have gl:=HG1.out.out.1
     have k0:=fun n:Behind V1=>n.cell g0 gl
     have k1:=fun n:Behind V1=>n.cell X2.1 X2.2.2.2.2
     have k2:=fun n:Behind V1=>n.cell X2.2.1 X2.2.2.2.2
     refine tail_behind 7 (by kernel_rfl) (by kernel_rfl) ?_
     simp only [List.take_succ_cons,List.take_zero,List.drop_succ_cons,List.drop_zero]
     repeat (go_big_quiet_step (first
      | (go_at_call 150;with_reducible refine Behind.call (cm _))))
     refine wpQuiet_nil ?_
     rintro _ ⟨q,rfl⟩
     obtain⟨W,hb1⟩:=q
     dsimp only
     clear k0 k1 k2 g0 gl X2 cm
     replace HG1:Hid (Tab w.heap.size W g N M h):=HG1.out.keep hb1
     replace HB1:=later HB1 hb1
     clear hb1
     obtain⟨y,y0,y1,ly⟩:=(HG1.out.row i (by omega)).at j (by omega)
     go_wp2_with fail
     go_roundg (M-j-1)
     case measure=>omega
     case rel=>exact⟨HB1.setCell (HG1.out.ge i (by omega)) _,j+1,by omega,by go_num,HG1.out.wrt ((Wrt.refl w.heap.size (h i) _).set (HG1.out.ge i (by omega)) _ _ hmw) (fun e=>HG1.out.ne i (by omega) e.symm)⟩
def gmP (X:Nat->Nat×Nat):Nat->Nat
 | 0=>0
 | j+1=>maxW (gmP X j) (magP (X j).1 (X j).2)
theorem gm_am (X:Nat->Nat×Nat):∀j,Am (gmP X j)
 | 0=>by unfold gmP Am;omega
 | j+1=>by
  have a:=gm_am X j
  have b:=mag_am (lo:=(X j).1) (hi:=(X j).2)
  show Am (maxW (gmP X j) (magP (X j).1 (X j).2))
  rw [maxW_am a b]
  split
  ·exact b
  ·exact a
set_option maxHeartbeats 2000000 in
theorem gm_w (A:Option Addr) (n C:Nat) (X:Nat->Nat×Nat) (hn:n<=3000000) (w:World) (V:Ivs w A n X) :
  Calls Tryz.prog 286 #[.slice A n C] w fun e w'=>e=.returned (.float .f64 (gmP X n))/\Below w.heap.size w w':=by
 go_enter Tryz.func286,Tryz.ntmps286
 go_wp2_with fail
 go_loopg [3,8] n (fun G s3 s8 wx=>Below w.heap.size w wx/\∃j:Nat,j+G=n/\s8=.int .i64 (j:Int)/\s3=.float .f64 (gmP X j))
 case atStart=>exact⟨Below.refl _ _,0,by omega,rfl,rfl⟩
 case round =>
  obtain⟨HB,j,hj,rfl,rfl⟩:=hrel
  by_cases cj:j=n
  ·subst cj
   go_wp2_with fail
   go_ret
   exact⟨rfl,HB⟩
  ·have hltj:(j:Int)<(n:Int):=by omega
   obtain⟨b2,o2,hA2,hb2,z0,z1,k0,k1⟩:=(V.keep HB) j (by omega)
   have cm:=fun w=>mag_w (X j).1 (X j).2 k0 k1 w
   have a:=gm_am X j
   have b:=mag_am (lo:=(X j).1) (hi:=(X j).2)
   have hm:∀ts t w,(Builtin.max_ ts t #[.float .f64 (gmP X j),.float .f64 (magP (X j).1 (X j).2)]).run Tryz.prog w=.ok (.float .f64 (maxW (gmP X j) (magP (X j).1 (X j).2))) w:=fun ts t w=>max_f a.lt b.lt a.num b.num _ ts t w
   have nx:Hid (gmP X (j+1)=maxW (gmP X j) (magP (X j).1 (X j).2)):=rfl
   generalize maxW (gmP X j) (magP (X j).1 (X j).2)=mx at *
   clear a b
   subst hA2
   go_wp2_with (go_at_call 109;refine (cm _).mono ?_;rintro _ w1 ⟨rfl,hb1⟩;replace HB:=later (below_alloc HB _) hb1)
   go_roundg (n-j-1)
   case measure=>omega
   case rel=>exact⟨HB,j+1,by omega,by go_num,by rw [nx.out]⟩
set_option maxHeartbeats 4000000 in
theorem balls_w (A:Option Addr) (N C room:Nat) (RA:Nat->Option Addr) (RL RC:Nat->Nat) (X:Nat->Nat->Nat×Nat) (hN:N<=24) (hR:∀r,r<N->RL r=N) (hroom:room<18446744073709551616) (w:World) (V:Rws w A N RA RL RC X) :
  Calls Tryz.prog 259 #[.slice A N C,.float .f64 room] w fun e w'=>∃g h F,e=.returned (.slice (some ⟨g,0,none⟩) N N)/\Grd w' g N N h F/\(∀r,r<N->∀c,c<N->(F r c).1<18446744073709551616/\(F r c).2<18446744073709551616)/\Below w.heap.size w w':=by
 have HR:Hid (∀r,r<N->RL r=N):=hR
 clear hR
 have cg:=fun w=>grid_w N N hN hN w
 go_enter Tryz.func259,Tryz.ntmps259
 go_wp2_with (go_at_call 263;refine (cg _).mono ?_;rintro _ w1 ⟨g,h,rfl,G0,hg,hh,HB⟩)
 clear cg
 have HH:Hid (∀r,r<N->w.heap.size<=h r):=hh
 clear hh
 go_loopg [16] N (fun G s16 wx=>Below w.heap.size w wx/\∃(j:Nat) (F:Nat->Nat->Nat×Nat),j+G=N/\s16=.int .i64 (j:Int)/\Grd wx g N N h F/\Hid (∀r,r<N->∀c,c<N->(F r c).1<18446744073709551616/\(F r c).2<18446744073709551616))
 case atStart=>exact⟨HB,0,_,by omega,rfl,G0,fun r _ c _=>⟨by simp,by simp⟩⟩
 case round =>
  clear HB G0
  obtain⟨HB,j,F,hj,rfl,G0,HF⟩:=hrel
  by_cases cj:j=N
  ·subst cj
   go_wp2_with fail
   go_ret
   exact⟨g,h,F,rfl,G0,HF,HB⟩
  ·have hltj:(j:Int)<(N:Int):=by omega
   have cc:=column_w A N C j RA RL RC X hN (fun s hs=>by have:=HR.out s hs;omega) wr (V.keep HB)
   have hw:Hid (∀s,s<N->(X s j).1<18446744073709551616/\(X s j).2<18446744073709551616):=fun s hs=>rws_words V hs (by have:=HR.out s hs;omega)
   have gl:=(gm_am (fun r=>X r j) N).lt
   go_wp2_with (first
    | (go_at_call 285;refine cc.mono ?_;rintro _ w2 ⟨vb,rfl,hV,hvb,hb1⟩;have cm:=gm_w (some ⟨vb,0,none⟩) N N (fun r=>X r j) (by omega) w2 (hV.ivs hw.out))
    | (go_at_call 286;refine cm.mono ?_;rintro _ w3 ⟨rfl,hb2⟩)
    | (go_at_call 210;refine (div_w _ _ 1 gl hroom _).mono ?_;rintro _ w4 ⟨⟨d,rfl,hd, -⟩,hb3⟩))
   replace G0:=((G0.keep hb1).keep hb2).keep hb3
   replace HB:=later (later (later HB hb1) hb2) hb3
   clear cc cm hb1 hb2 hb3 hV hvb gl hw
   have hneg:Op.negFloat .f64 d=negB d:=negFloat_eq d hd
   have hnl:=negB_lt hd
   have ck:=fun w=>make_w (negB d) d hnl hd w
   have ml:=makeP_lt hnl hd
   generalize makeP (negB d) d=z at *
   generalize negB d=nd at *
   go_loopg [27] N (fun G s27 wy=>Below w.heap.size w wy/\∃(i:Nat) (F:Nat->Nat->Nat×Nat),i+G=N/\s27=.int .i64 (i:Int)/\Grd wy g N N h F/\Hid (∀r,r<N->∀c,c<N->(F r c).1<18446744073709551616/\(F r c).2<18446744073709551616))
   case atStart=>exact⟨HB,0,F,by omega,rfl,G0,HF⟩
   case round =>
    clear HB G0 HF F
    obtain⟨HB,i,F,hi,rfl,G0,HF⟩:=hrel
    by_cases ci:i=N
    ·subst ci
     go_wp2_with fail
     go_roundg (i-j-1)
     case measure=>omega
     case rel=>exact⟨HB,j+1,F,by omega,by go_num,G0,HF⟩
    ·have hlti:(i:Int)<(N:Int):=by omega
     obtain⟨g0, -⟩:=G0.out.2 i (by omega)
     have gl:=G0.out.1
     go_upto_region 9 with fail
     have k0:=fun n:Behind wr=>n.cell g0 gl
     refine tail_behind 9 (by kernel_rfl) (by kernel_rfl) ?_
     simp only [List.take_succ_cons,List.take_zero,List.drop_succ_cons,List.drop_zero]
     repeat (go_big_quiet_step (first
      | (go_at_call 32;with_reducible refine Behind.call (ck _))))
     refine wpQuiet_nil ?_
     rintro _ ⟨q,rfl⟩
     obtain⟨W,hb1⟩:=q
     dsimp only
     clear k0 g0 gl
     replace G0:=G0.keep hb1
     replace HB:=later HB hb1
     clear hb1
     obtain⟨i0,i1,f0,f1⟩:=id ((G0.row i (by omega)).2 j (by omega))
     go_wp2_with fail
     go_roundg (N-i-1)
     case measure=>omega
     case rel =>
      have hhi:=HH.out i (by omega)
      refine⟨?_,i+1,_,by omega,by go_num,G0.set i j _ _ (by omega) (by omega),fun r hr c hc=>?_⟩
      ·repeat' (first | (with_reducible exact HB) | (with_reducible refine Below.setCell ?_ ?_ _) | go_size | omega)
      ·by_cases e:r=i/\c=j
       ·rw [if_pos e]
        exact ml
       ·rw [if_neg e]
        exact HF.out r hr c hc
def Sq (w:World) (A:Option Addr) (n:Nat):Prop:=∃g h F,A=some ⟨g,0,none⟩/\Grd w g n n h F/\∀r,r<n->∀c,c<n->(F r c).1<18446744073709551616/\(F r c).2<18446744073709551616
theorem Sq.keep {w w2:World} {A:Option Addr} {n:Nat} (h:Sq w A n) (hb:Below w.heap.size w w2):Sq w2 A n:=by
 obtain⟨g,k,F,e,G,l⟩:=h
 exact⟨g,k,F,e,G.keep hb,l⟩
theorem Sq.rws {w:World} {A:Option Addr} {n:Nat} (h:Sq w A n) (hn:n<=24):∃RA RC X,Rws w A n RA (fun _=>n) RC X:=by
 obtain⟨g,k,F,rfl,G,l⟩:=h
 exact⟨_,_,_,G.rws (by omega) l⟩
theorem prod_sq (A B:Option Addr) (n:Nat) (n1:1<=n) (n2:n<=24) (w:World) (V:Sq w A n) (U:Sq w B n) :
  Calls Tryz.prog 257 #[.slice A n n,.slice B n n] w fun e w'=>(∃C,e=.returned (.slice C n n)/\Sq w' C n)/\Below w.heap.size w w':=by
 obtain⟨RA,RC,X,V⟩:=V.rws n2
 obtain⟨SA,SC,Y,U⟩:=U.rws n2
 refine (prodM_w A B n n n n n RA SA _ RC _ SC X Y n2 n2 n1 n2 (fun _ _=>rfl) (fun _ _=>rfl) w V U).mono fun e w' ⟨g,h,a,b,c⟩=>⟨⟨_,a,g,h,_,rfl,b,fun r hr c hc=>?_⟩,c⟩
 exact dotP_lt (fun i hi=>rws_words V hr hi) (fun i hi=>rws_words U hi hc)
theorem less_sq (A B:Option Addr) (n:Nat) (n1:1<=n) (n2:n<=24) (w:World) (V:Sq w A n) (U:Sq w B n) :
  Calls Tryz.prog 255 #[.slice A n n,.slice B n n] w fun e w'=>(∃C,e=.returned (.slice C n n)/\Sq w' C n)/\Below w.heap.size w w':=by
 obtain⟨RA,RC,X,V⟩:=V.rws n2
 obtain⟨SA,SC,Y,U⟩:=U.rws n2
 refine (mless_w A B n n n n RA SA _ RC _ SC X Y n2 n1 n2 (fun _ _=>rfl) (fun _ _=>rfl) w V U).mono fun e w' ⟨⟨g,h,a,b⟩,c⟩=>⟨⟨_,a,g,h,_,rfl,b,fun r hr c hc=>?_⟩,c⟩
 have x:=rws_words V hr hc
 have y:=rws_words U hr hc
 have q:=negP_lt y.1 y.2
 exact addP_lt x.1 x.2 q.1 q.2
theorem plus_sq (A B:Option Addr) (n:Nat) (n1:1<=n) (n2:n<=24) (w:World) (V:Sq w A n) (U:Sq w B n) :
  Calls Tryz.prog 260 #[.slice A n n,.slice B n n] w fun e w'=>(∃C,e=.returned (.slice C n n)/\Sq w' C n)/\Below w.heap.size w w':=by
 obtain⟨RA,RC,X,V⟩:=V.rws n2
 obtain⟨SA,SC,Y,U⟩:=U.rws n2
 refine (mplus_w A B n n n n RA SA _ RC _ SC X Y n2 n1 n2 (fun _ _=>rfl) (fun _ _=>rfl) w V U).mono fun e w' ⟨⟨g,h,a,b⟩,c⟩=>⟨⟨_,a,g,h,_,rfl,b,fun r hr c hc=>?_⟩,c⟩
 have x:=rws_words V hr hc
 have y:=rws_words U hr hc
 exact addP_lt x.1 x.2 y.1 y.2
theorem one_sq (n:Nat) (n1:1<=n) (n2:n<=24) (w:World):Calls Tryz.prog 256 #[.int .i64 (n:Int)] w fun e w'=>(∃C,e=.returned (.slice C n n)/\Sq w' C n)/\Below w.heap.size w w' :=
 (One_good n n1 n2 w).mono fun _ _ ⟨g,k,he,G,hb⟩=>⟨⟨_,he,g,k,_,rfl,G,fun r _ c _=>oneP_lt r c⟩,hb⟩
theorem balls_sq (A:Option Addr) (n room:Nat) (n2:n<=24) (hroom:room<18446744073709551616) (w:World) (V:Sq w A n) :
  Calls Tryz.prog 259 #[.slice A n n,.float .f64 room] w fun e w'=>(∃C,e=.returned (.slice C n n)/\Sq w' C n)/\Below w.heap.size w w':=by
 obtain⟨RA,RC,X,V⟩:=V.rws n2
 exact (balls_w A n n room RA _ RC X n2 (fun _ _=>rfl) hroom w V).mono fun _ _ ⟨g,h,F,a,b,c,d⟩=>⟨⟨_,a,g,h,F,rfl,b,c⟩,d⟩
def Nr (w:World) (A:Option Addr) (l n:Nat):Prop:=∃RA RL RC X,Rfs w A l RA RL RC X/\(l=0\/l=n)/\∀r,r<l->RL r=0\/RL r=n
theorem near_nr (gb n b:Nat) (hb:Nat->Nat) (hn:n<=24) (w:World) (T:Tab b w gb n n hb) :
  Calls Tryz.prog 253 #[.slice (some ⟨gb,0,none⟩) n n] w fun e w'=>(∃A l C,e=.returned (.slice A l C)/\Nr w' A l n)/\Below w.heap.size w w':=by
 refine (nearly_w gb n b hb hn w T).mono fun _ _ ⟨a,d⟩=>⟨?_,d⟩
 rcases a with rfl | ⟨c,f,rfl,p⟩
 ·exact⟨none,0,0,rfl,fun _=>none,fun _=>0,fun _=>0,fun _ _=>0,fun r hr=>absurd hr (by omega),Or.inl rfl,fun r hr=>absurd hr (by omega)⟩
 ·obtain⟨RA,RL,RC,X,V,h⟩:=p.rows hn
  exact⟨_,_,_,rfl,RA,RL,RC,X,V,Or.inr rfl,h⟩
theorem pts_nr (A:Option Addr) (l n C:Nat) (hn:n<=24) (w:World) (V:Nr w A l n) :
  Calls Tryz.prog 229 #[.slice A l C] w fun e w'=>(∃B L D,e=.returned (.slice B L D)/\((B=none/\L=0/\D=0)\/(n=L/\n=D/\Sq w' B n)))/\Below w.heap.size w w':=by
 obtain⟨RA,RL,RC,X,V,hl,hr⟩:=V
 cases hf:fltB l RL X
 ·exact (Points_bad A l C RA RL RC X (by omega) hf w V).mono fun e w' ⟨a,b⟩=>⟨⟨none,0,0,a,Or.inl ⟨rfl,rfl,rfl⟩⟩,b⟩
 ·obtain⟨m1,m2,m3,m4,m5⟩:=fltB_parts hf
  have e1:l=n:=by omega
  subst e1
  have e2:RL 0=l:=by rcases hr 0 (by omega) with e | e <;> omega
  have c:=Points_good A l C RA RL RC X (by omega) hf w V
  rw [e2] at c
  refine c.mono fun e w' ⟨g,h,a,b,d⟩=>⟨⟨_,_,_,a,Or.inr ⟨rfl,rfl,g,h,_,rfl,b,fun r hr' c hc=>?_⟩⟩,d⟩
  exact makeP_lt (rfs_words V hr' (by rw [m3 r hr',e2];exact hc)) (rfs_words V hr' (by rw [m3 r hr',e2];exact hc))
def InvAns (n:Nat) (e:Ending) (w':World):Prop:=∃B L er,e=.returned (.tuple #[.slice B L L,.int .i64 er])/\((er=1\/er=40)\/(er=0/\n=L/\Sq w' B n))
set_option maxRecDepth 4000 in
set_option maxHeartbeats 16000000 in
theorem inverse_good (A:Option Addr) (n C:Nat) (RA:Nat->Option Addr) (RL RC:Nat->Nat) (X:Nat->Nat->Nat) (n1:1<=n) (n2:n<=24) (hf:fltB n RL X=true) (hR:RL 0=n) (w:World) (V:Rfs w A n RA RL RC X)
  (c1:Calls Tryz.prog 250 #[.slice A n C] w fun e w'=>e=.returned (.bool true)/\Below w.heap.size w w')
  (c2:∀W,Below w.heap.size w W->Calls Tryz.prog 251 #[.slice A n C] W fun e w'=>SclAns n e w'/\Below W.heap.size W w') :
  Calls Tryz.prog 227 #[.slice A n C] w fun e w'=>InvAns n e w'/\Below w.heap.size w w':=by
 have c3:∀W gr gc P Q,Below w.heap.size w W->Pws W (some ⟨gr,0,none⟩) n P->Pws W (some ⟨gc,0,none⟩) n Q->Calls Tryz.prog 252 #[.agg #[.slice (some ⟨gr,0,none⟩) n n,.slice (some ⟨gc,0,none⟩) n n],.slice A n C] W fun e w'=>(∃B,e=.returned (.slice B n n)/\Sq w' B n)/\Below W.heap.size W w':=fun W gr gc P Q hW p q =>
  (scaled_w A _ _ n C n n RA RL RC X P Q hf hR W (V.keep hW) p q).mono fun e w' ⟨g,h,F,a,b,c,d⟩=>⟨⟨_,a,g,h,F,rfl,b,c⟩,d⟩
 have c4:∀W B,Sq W B n->Calls Tryz.prog 254 #[.slice B n n] W fun e w'=>(∃g h,e=.returned (.slice (some ⟨g,0,none⟩) n n)/\Tab W.heap.size w' g n n h)/\Below W.heap.size W w':=fun W B V=>by
  obtain⟨RA,RC,X,V⟩:=V.rws n2
  exact (middles_w B n n n RA _ RC X n2 n1 n2 n1 (fun _ _=>rfl) W V).mono fun e w' ⟨g,h,a,b,_,d⟩=>⟨⟨g,h,a,b⟩,d⟩
 have c5:∀W B,Sq W B n->Calls Tryz.prog 258 #[.slice B n n] W fun e w'=>(∃u,e=.returned (.float .f64 u)/\u<18446744073709551616)/\Below W.heap.size W w':=fun W B V=>by
  obtain⟨RA,RC,X,V⟩:=V.rws n2
  exact (norm_w B n n RA _ RC X (by omega) W V).mono fun e w' ⟨a,b⟩=>⟨⟨_,a,(norm_am _ X n).lt⟩,b⟩
 have c6:∀W u,u<18446744073709551616->Calls Tryz.prog 235 #[.float .f64 4607182418800017408,.float .f64 u,.int .i64 (-1)] W fun e w'=>(∃v,e=.returned (.float .f64 v)/\v<18446744073709551616)/\Below W.heap.size W w':=fun W u hu =>
  (sub_w 4607182418800017408 u (-1) (by omega) hu W).mono fun e w' ⟨⟨r,a,b,_⟩,d⟩=>⟨⟨r,a,b⟩,d⟩
 have c7:∀W B gr gc P Q,Sq W B n->Pws W (some ⟨gr,0,none⟩) n P->Pws W (some ⟨gc,0,none⟩) n Q->Calls Tryz.prog 261 #[.agg #[.slice (some ⟨gr,0,none⟩) n n,.slice (some ⟨gc,0,none⟩) n n],.slice B n n] W fun e w'=>(∃C,e=.returned (.slice C n n)/\Sq w' C n)/\Below W.heap.size W w':=fun W B gr gc P Q V p q=>by
  obtain⟨RA,RC,X,V⟩:=V.rws n2
  exact (back_w B _ _ n n n n RA _ RC X P Q n2 n1 (fun _ _=>rfl) W V p q).mono fun e w' ⟨g,h,F,a,b,c,d⟩=>⟨⟨_,a,g,h,F,rfl,b,c⟩,d⟩
 have eqn:∀(w:World) (a:Option Addr) (n c n' c':Nat),(binOp .eql 52 (.slice a n c) (.slice none n' c')).run Tryz.prog w=.ok (.bool a.isNone) w:=fun w a n c n' c'=>Go.Lib.run_eql_slice_nil w _ _ a n c n' c' Tryz.underlying52
 have np:=fun W B D=>prod_sq B D n n1 n2 W
 have nl:=fun W B D=>less_sq B D n n1 n2 W
 have nu:=fun W B D=>plus_sq B D n n1 n2 W
 have no:=fun W=>one_sq n n1 n2 W
 have nb:=fun W B room hr=>balls_sq B n room n2 hr W
 clear V hf hR
 go_enter Tryz.func227,Tryz.ntmps227
 go_upto_region 3 with (go_at_call 250;(with_reducible refine c1.mono ?_);rintro _ W1 ⟨rfl,HB⟩)
 go_upto_region 4 with (go_at_call 251;(with_reducible refine (c2 _ HB).mono ?_);rintro _ W2 ⟨⟨A1,l1,k1,A2,l2,k2,ok,rfl,hok⟩,hb2⟩;replace HB:=later HB hb2;clear hb2)
 cases ok
 ·go_wp2_with fail
  refine bodyPost_ret (v:=.tuple #[.slice none 0 0,.int .i64 40]) (by simp [results,Tryz.results227,go_sem]) rfl ⟨⟨none,0,40,rfl,Or.inl (Or.inr rfl)⟩,below_alloc HB _⟩
 obtain⟨gr,gc,P,Q,rfl,rfl,rfl,rfl,rfl,rfl,hP,hQ⟩:=hok rfl
 have S:=has2_new W2 (.slice (some ⟨gr,0,none⟩) n n) (.slice (some ⟨gc,0,none⟩) n n) 192
 have hb3:Below W2.heap.size W2 (W2.alloc (.cells #[.slice (some ⟨gr,0,none⟩) n n,.slice (some ⟨gc,0,none⟩) n n] 192)):=by go_grown
 replace HB:=later HB hb3;replace hP:=hP.keep hb3;replace hQ:=hQ.keep hb3
 clear hb3 hok c1 c2
 generalize W2.alloc (.cells #[.slice (some ⟨gr,0,none⟩) n n,.slice (some ⟨gc,0,none⟩) n n] 192)=W3 at *
 generalize W2.heap.size=sb at *
 obtain⟨s0,s1,s2,s3,s4⟩:=id S
 go_upto_region 8 with (first
  | (go_at_call 252;(with_reducible refine (c3 _ _ _ _ _ HB hP hQ).mono ?_);rintro _ W4 ⟨⟨Bb,rfl,Sb⟩,hb1⟩;replace HB:=later HB hb1;replace S:=S.keep hb1;replace hP:=hP.keep hb1;replace hQ:=hQ.keep hb1;clear hb1 s0 s1 s2 s3 s4;obtain⟨s0,s1,s2,s3,s4⟩:=id S)
  | (go_at_call 254;(with_reducible refine (c4 _ _ Sb).mono ?_);rintro _ W5 ⟨⟨gm,hm,rfl,Tm⟩,hb1⟩;replace HB:=later HB hb1;replace S:=S.keep hb1;replace hP:=hP.keep hb1;replace hQ:=hQ.keep hb1;replace Sb:=Sb.keep hb1;clear hb1 s0 s1 s2 s3 s4;obtain⟨s0,s1,s2,s3,s4⟩:=id S)
  | (go_at_call 253;(with_reducible refine (near_nr _ _ _ _ n2 _ Tm).mono ?_);rintro _ W6 ⟨⟨An,ln,Cn,rfl,Nn⟩,hb1⟩;replace HB:=later HB hb1;replace S:=S.keep hb1;replace hP:=hP.keep hb1;replace hQ:=hQ.keep hb1;replace Sb:=Sb.keep hb1;clear hb1 s0 s1 s2 s3 s4;obtain⟨s0,s1,s2,s3,s4⟩:=id S)
  | (go_at_call 229;(with_reducible refine (pts_nr _ _ _ _ n2 _ Nn).mono ?_);rintro _ W7 ⟨⟨Ap,lp,Cp,rfl,hp⟩,hb1⟩;replace HB:=later HB hb1;replace S:=S.keep hb1;replace hP:=hP.keep hb1;replace hQ:=hQ.keep hb1;replace Sb:=Sb.keep hb1;clear hb1 s0 s1 s2 s3 s4;obtain⟨s0,s1,s2,s3,s4⟩:=id S))
 rcases hp with ⟨rfl,rfl,rfl⟩ | ⟨rfl,rfl,Sr⟩
 ·go_wp2_with fail
  refine bodyPost_ret (v:=.tuple #[.slice none 0 0,.int .i64 40]) (by simp [results,Tryz.results227,go_sem]) rfl ⟨⟨none,0,40,rfl,Or.inl (Or.inr rfl)⟩,HB⟩
 obtain⟨gq,eq⟩:∃gq,Ap=some ⟨gq,0,none⟩:=by obtain⟨g,_,_,e,_⟩:=Sr;exact⟨g,e⟩
 subst eq
 go_upto_region 12 with (first
  | (go_at_call 256;(with_reducible refine (no _).mono ?_);rintro _ W8 ⟨⟨Bo,rfl,So⟩,hb1⟩;replace HB:=later HB hb1;replace S:=S.keep hb1;replace hP:=hP.keep hb1;replace hQ:=hQ.keep hb1;replace Sb:=Sb.keep hb1;replace Sr:=Sr.keep hb1;clear hb1 s0 s1 s2 s3 s4;obtain⟨s0,s1,s2,s3,s4⟩:=id S)
  | (go_at_call 257;(with_reducible refine (np _ _ _ Sr Sb).mono ?_);rintro _ W9 ⟨⟨Bp,rfl,Sp⟩,hb1⟩;replace HB:=later HB hb1;replace S:=S.keep hb1;replace hP:=hP.keep hb1;replace hQ:=hQ.keep hb1;replace So:=So.keep hb1;replace Sr:=Sr.keep hb1;clear hb1 s0 s1 s2 s3 s4;obtain⟨s0,s1,s2,s3,s4⟩:=id S)
  | (go_at_call 255;(with_reducible refine (nl _ _ _ So Sp).mono ?_);rintro _ Wa ⟨⟨Be,rfl,Se⟩,hb1⟩;replace HB:=later HB hb1;replace S:=S.keep hb1;replace hP:=hP.keep hb1;replace hQ:=hQ.keep hb1;replace Sr:=Sr.keep hb1;clear hb1 s0 s1 s2 s3 s4;obtain⟨s0,s1,s2,s3,s4⟩:=id S)
  | (go_at_call 258;(with_reducible refine (c5 _ _ Se).mono ?_);rintro _ Wb ⟨⟨u,rfl,hu⟩,hb1⟩;replace HB:=later HB hb1;replace S:=S.keep hb1;replace hP:=hP.keep hb1;replace hQ:=hQ.keep hb1;replace Sr:=Sr.keep hb1;replace Se:=Se.keep hb1;clear hb1 s0 s1 s2 s3 s4;obtain⟨s0,s1,s2,s3,s4⟩:=id S)
  | (go_at_call 235;(with_reducible refine (c6 _ _ hu).mono ?_);rintro _ Wc ⟨⟨v,rfl,hv⟩,hb1⟩;replace HB:=later HB hb1;replace S:=S.keep hb1;replace hP:=hP.keep hb1;replace hQ:=hQ.keep hb1;replace Sr:=Sr.keep hb1;replace Se:=Se.keep hb1;clear hb1 s0 s1 s2 s3 s4;obtain⟨s0,s1,s2,s3,s4⟩:=id S))
 have hg:(FloatKind.f64.format.order v 0==some .gt)=true\/(FloatKind.f64.format.order v 0==some .gt)=false:=by cases (FloatKind.f64.format.order v 0==some .gt) <;> simp
 rcases hg with hg | hg
 case inr =>
  go_wp2_with fail
  refine bodyPost_ret (v:=.tuple #[.slice none 0 0,.int .i64 40]) (by simp [results,Tryz.results227,go_sem]) rfl ⟨⟨none,0,40,rfl,Or.inl (Or.inr rfl)⟩,HB⟩
 go_wp2_with (go_at_call 259;(with_reducible refine (nb _ _ _ hv Sr).mono ?_);rintro _ Wd ⟨⟨Bx,rfl,Sx⟩,hb1⟩;replace HB:=later HB hb1;replace S:=S.keep hb1;replace hP:=hP.keep hb1;replace hQ:=hQ.keep hb1;replace Sr:=Sr.keep hb1;replace Se:=Se.keep hb1;clear hb1 s0 s1 s2 s3 s4;obtain⟨s0,s1,s2,s3,s4⟩:=id S)
 clear s0 s1 s2 s3 s4
 go_loopg [10,46] 2 (fun G s10 s46 wx=>Below w.heap.size w wx/\Has2 wx sb (.slice (some ⟨gr,0,none⟩) n n) (.slice (some ⟨gc,0,none⟩) n n)/\Pws wx (some ⟨gr,0,none⟩) n P/\Pws wx (some ⟨gc,0,none⟩) n Q/\Sq wx (some ⟨gq,0,none⟩) n/\Sq wx Be n/\∃(i:Nat) (Bx:Option Addr),i+G=2/\s46=.int .i64 (i:Int)/\s10=.slice Bx n n/\Sq wx Bx n)
 case atStart=>exact⟨HB,S,hP,hQ,Sr,Se,0,_,by omega,rfl,rfl,Sx⟩
 case round =>
  clear HB S hP hQ Sr Se Sx
  obtain⟨HB,S,hP,hQ,Sr,Se,i,By,hi,rfl,rfl,Sx⟩:=hrel
  by_cases ci:i=2
  ·subst ci
   obtain⟨s0,s1,s2,s3,s4⟩:=id S
   go_wp2_with (go_at_call 261;(with_reducible refine (c7 _ _ _ _ _ _ Sx hP hQ).mono ?_);rintro _ We ⟨⟨Bz,rfl,Sz⟩,hb1⟩;replace HB:=later HB hb1)
   refine bodyPost_ret (v:=.tuple #[.slice Bz n n,.int .i64 0]) (by simp [results,Tryz.results227,go_sem]) rfl ⟨⟨Bz,n,0,rfl,Or.inr ⟨rfl,rfl,Sz⟩⟩,HB⟩
  ·have hlt:(i:Int)<2:=by omega
   go_wp2_with (first
    | (go_at_call 257;(with_reducible refine (np _ _ _ Se Sx).mono ?_);rintro _ We ⟨⟨Bp2,rfl,Sp2⟩,hb1⟩;replace HB:=later HB hb1;replace S:=S.keep hb1;replace hP:=hP.keep hb1;replace hQ:=hQ.keep hb1;replace Sr:=Sr.keep hb1;replace Se:=Se.keep hb1;clear hb1)
    | (go_at_call 260;(with_reducible refine (nu _ _ _ Sr Sp2).mono ?_);rintro _ Wf ⟨⟨Bq,rfl,Sq2⟩,hb1⟩;replace HB:=later HB hb1;replace S:=S.keep hb1;replace hP:=hP.keep hb1;replace hQ:=hQ.keep hb1;replace Sr:=Sr.keep hb1;replace Se:=Se.keep hb1;clear hb1))
   go_roundg (2-i-1)
   case measure=>omega
   case rel=>exact⟨HB,S,hP,hQ,Sr,Se,i+1,_,by omega,by go_num,rfl,Sq2⟩
theorem inverse_w (A:Option Addr) (n C:Nat) (RA:Nat->Option Addr) (RL RC:Nat->Nat) (X:Nat->Nat->Nat) (hN:n<=9223372036854775807) (w:World) (V:Rfs w A n RA RL RC X) :
  Calls Tryz.prog 227 #[.slice A n C] w fun e w'=>InvAns n e w'/\Below w.heap.size w w':=by
 have c1:=square_w A n C RA RL RC X hN w V
 cases hq:(fltB n RL X&&decide (n=RL 0))
 ·rw [hq] at c1
  go_enter Tryz.func227,Tryz.ntmps227
  go_wp2_with (go_at_call 250;(with_reducible refine c1.mono ?_);rintro _ W1 ⟨rfl,HB⟩)
  refine bodyPost_ret (v:=.tuple #[.slice none 0 0,.int .i64 1]) (by simp [results,Tryz.results227,go_sem]) rfl ⟨⟨none,0,1,rfl,Or.inl (Or.inl rfl)⟩,HB⟩
 ·rw [hq] at c1
  simp only [Bool.and_eq_true,decide_eq_true_eq] at hq
  obtain⟨hf,hR⟩:=hq
  obtain⟨m1,m2,m3,m4,m5⟩:=fltB_parts hf
  refine inverse_good A n C RA RL RC X m1 m2 hf hR.symm w V c1 fun W hW=>?_
  refine scalesOf_w A n C RA RL RC X m1 m2 (fun r hr=>by rw [m3 r hr,<-hR]) (fun r hr c hc=>?_) W (V.keep hW)
  unfold fltB at hf
  simp only [Bool.and_eq_true] at hf
  have q:=all_upto.1 hf.1 r hr
  unfold rowFB at q
  simp only [Bool.and_eq_true] at q
  exact all_upto.1 q.2 c (by rw [m3 r hr,<-hR];exact hc)
set_option maxHeartbeats 4000000 in
theorem One_new (n:Nat) (h1:1<=n) (h2:n<=24) (w:World):Calls Tryz.prog 256 #[.int .i64 (n:Int)] w fun e w'=>∃g h,e=.returned (.slice (some ⟨g,0,none⟩) n n)/\Grd w' g n n h oneP/\w.heap.size<=g/\Below w.heap.size w w':=by
 have c:∀w,Calls Tryz.prog 284 #[.int .i64 (n:Int)] w fun e w'=>e=.returned (.bool true)/\w=w':=fun w=>by
  rw [<-dim_yes h1 h2];exact isDim_w n (by omega) w
 have cg:=fun w=>grid_w n n h2 h2 w
 have cp:=fun w=>point_w 4607182418800017408 (by omega) w
 have hP:Hid (oneP=fun r c=>if r=c then makeP 4607182418800017408 4607182418800017408 else (0,0)):=rfl
 generalize makeP 4607182418800017408 4607182418800017408=P at *
 go_enter Tryz.func256,Tryz.ntmps256
 go_wp2_with (first
  | (go_at_call 284;refine (c _).mono ?_;rintro _ _ ⟨rfl,rfl⟩)
  | (go_at_call 263;refine (cg _).mono ?_;rintro _ w1 ⟨g,h,rfl,G0,hg,hh,HB⟩))
 clear c cg
 go_loopg [12] n (fun G s wx=>Below w.heap.size w wx/\∃j:Nat,j+G=n/\s=.int .i64 (j:Int)/\Grd wx g n n h (fun r c=>if r=c/\r<j then P else (0,0)))
 case atStart=>exact⟨HB,0,by omega,rfl,G0.congr fun r _ c _=>by simp⟩
 case round =>
  clear HB G0
  obtain⟨HB,j,hj,rfl,G0⟩:=hrel
  by_cases cj:j=n
  ·subst cj
   go_wp2_with fail
   go_ret
   exact⟨g,h,rfl,by rw [show oneP=_ from hP];exact G0.congr fun r hr c hc=>by simp [hr],hg,HB⟩
  ·have hltj:(j:Int)<(n:Int):=by omega
   obtain⟨g0, -⟩:=G0.out.2 j (by omega)
   have gl:=G0.out.1
   go_upto_region 7 with fail
   have kg0:=fun n:Behind wr=>n.cell g0 gl
   refine tail_behind 6 (by kernel_rfl) (by kernel_rfl) ?_
   simp only [List.take_succ_cons,List.take_zero,List.drop_succ_cons,List.drop_zero]
   repeat (go_big_quiet_step (first
    | (go_at_call 55;with_reducible refine Behind.call (cp _))))
   refine wpQuiet_nil ?_
   rintro _ ⟨q,rfl⟩
   obtain⟨W,hb1⟩:=q
   dsimp only
   clear kg0 g0 gl cp
   replace G0:=G0.keep hb1
   replace HB:=later HB hb1
   clear hb1
   obtain⟨i0,i1,f0,f1⟩:=id ((G0.row j (by omega)).2 j (by omega))
   go_wp2_with fail
   go_roundg (n-j-1)
   case measure=>omega
   case rel =>
    have hhi:=hh j (by omega)
    refine⟨?_,j+1,by omega,by go_num,(G0.set j j _ _ (by omega) (by omega)).congr fun r hr c hc=>?_⟩
    ·repeat' (first | (with_reducible exact HB) | (with_reducible refine Below.setCell ?_ ?_ _) | go_size | omega)
    ·by_cases e:r=j/\c=j
     ·obtain⟨rfl,rfl⟩:=e
      simp
     ·rw [if_neg e]
      by_cases q:r=c/\r<j
      ·rw [if_pos q,if_pos (by omega)]
      ·rw [if_neg q,if_neg (by omega)]
set_option maxRecDepth 8000 in
set_option maxHeartbeats 8000000 in
theorem kless_w (B:Option Addr) (n D:Nat) (SA:Nat->Option Addr) (SC:Nat->Nat) (Y:Nat->Nat->Nat×Nat) (n1:1<=n) (n2:n<=24) (w:World) (U:Rws w B n SA (fun _=>n) SC Y) :
  Calls Tryz.prog 232 #[.slice B n D] w fun e w'=>(∃g SA',e=.returned (.slice (some ⟨g,0,none⟩) n n)/\Rws w' (some ⟨g,0,none⟩) n SA' (fun _=>n) (fun _=>n) (fun r c=>subQ (oneP r c) (Y r c)))/\Below w.heap.size w w':=by
 have co:=fun w=>One_new n n1 n2 w
 go_enter Tryz.func232,Tryz.ntmps232
 go_wp2_with (go_at_call 256;(with_reducible refine (co _).mono ?_);rintro _ w1 ⟨g,h,rfl,G0,hg,HB⟩)
 clear co
 have gl0:=G0.out.1
 have HG:Hid (w.heap.size<=g):=hg
 have HG0:=G0
 go_loopg [10] n (fun G s10 wx=>Below w.heap.size w wx/\Bex g w1 wx/\∃(r:Nat) (k:Nat->Nat),r+G=n/\s10=.int .i64 (r:Int)/\Out wx g n (fun i=>.slice (some ⟨if i<r then k i else h i,0,none⟩) n n) /\
  Hid (∀i,i<r->Img wx (k i) n (fun c=>subQ (oneP i c) (Y i c))/\k i≠g))
 case atStart=>exact⟨HB,⟨Nat.le_refl _,fun _ _ _=>rfl⟩,0,fun _=>0,by omega,rfl,G0.out.congr fun i _=>by simp,fun i hi=>absurd hi (by omega)⟩
 case round =>
  clear HB G0
  obtain⟨HB,hX,r,k,hr,rfl,hO,hI⟩:=hrel
  by_cases cr:r=n
  ·subst cr
   go_wp2_with fail
   go_ret
   refine⟨⟨g,fun i=>some ⟨k i,0,none⟩,rfl,fun i hi=>⟨g,0,rfl,hO.1, ?_,show r<=9223372036854775807 by omega, ?_⟩⟩,HB⟩
   ·have:=(hO.2 i hi).1
    simp only [hi,if_true] at this
    rw [Nat.zero_add]
    exact this
   ·refine ((hI i hi).1).ivs fun c hc=>?_
    have x:=oneP_lt i c
    have y:=rws_words U hi hc
    exact subQ_W2 x y
  ·have hlt:(r:Int)<(n:Int):=by omega
   obtain⟨b,o,hB,hb,x0,l0,I⟩:=(U.keep HB) r (by omega)
   obtain⟨b2,o2,hA2, -⟩:=I 0 n1
   obtain⟨o0,o1⟩:=id (hO.2 r (by omega))
   simp only [show ¬r<r by omega,if_false] at o0
   have gl:=hO.1
   have hrow:Ivs wr (some ⟨h r,0,none⟩) n (fun c=>oneP r c):=(((HG0.row r (by omega)).block hX.size (hX.block _ (HG0.row r (by omega)).1 (HG0.ne r (by omega)))).ivs fun c _=>oneP_lt r c)
   rw [hA2] at x0 I
   subst hB
   generalize SC r=sc at *
   generalize h r=hr0 at *
   have ce:=fun W (hW:Below wr.heap.size wr W)=>eachSub_w (some ⟨hr0,0,none⟩) (some ⟨b2,o2,none⟩) n n sc (fun c=>oneP r c) (Y r) (by omega) W (hrow.keep hW) (I.keep hW)
   go_upto_region 5 with fail
   go_region_law
    (first
     | (go_simp;go_at_call 184;(with_reducible refine (ce _ (by go_grown)).mono ?_);rintro _ W ⟨⟨g',rfl,hI',hg'⟩,hb1⟩;have hbW:Below wr.heap.size wr W:=later (Below.refl _ _).drew hb1;have hO':=hO.keep hbW;obtain⟨p0,p1⟩:=id (hO'.2 r (by omega));have glW:=hO'.1))
   all_goals
    go_wp2_with fail
    go_roundg (n-r-1)
    case measure=>omega
    case rel =>
     have hgg:w.heap.size<=g:=HG
     have hne:g'≠g:=by have:wr.heap.size<=g':=hg';omega
     refine⟨(later HB hbW).setCell hgg _,(hX.trans (Bex.of g hbW)).set _ _,r+1,fun i=>if i=r then g' else k i,by omega,by go_num,(hO'.set r _ (by omega)).congr fun i hi=>?_,fun i hi=>?_⟩
     ·by_cases e:i=r
      ·subst e
       simp
      ·simp only [e,if_false]
       by_cases q:i<r
       ·simp [q,show i<r+1 by omega]
       ·simp [q,show ¬i<r+1 by omega]
     ·by_cases e:i=r
      ·subst e
       simp only [if_true]
       exact⟨hI'.block (by rw [World.size_setCell];exact Nat.le_refl _) (Below.heap_setCell _ _ _ _ hne),hne⟩
      ·simp only [e,if_false]
       obtain⟨q1,q2⟩:=hI i (by omega)
       exact⟨(q1.keep hbW).block (by rw [World.size_setCell];exact Nat.le_refl _) (Below.heap_setCell _ _ _ _ q2),q2⟩
def Mat (w:World) (A:Option Addr) (n:Nat):Prop:=∃RA RC X,Rws w A n RA (fun _=>n) RC X
def MatR (w:World) (A:Option Addr) (n:Nat):Prop:=∃RA RC X,Rws w A n RA (fun _=>n) RC X/\∀r,r<n->∀c,c<n->rightB (X r c).1 (X r c).2=true
def Vec (w:World) (A:Option Addr) (n:Nat):Prop:=∃X,Ivs w A n X
def VecR (w:World) (A:Option Addr) (n:Nat):Prop:=∃X,Ivs w A n X/\∀i,i<n->rightB (X i).1 (X i).2=true
def FinM (w:World) (A:Option Addr) (n:Nat):Prop:=∃RA RC F,Rfs w A n RA (fun _=>n) RC F/\∀r,r<n->∀c,c<n->finB (F r c)=true
theorem MatR.keep {w w2:World} {A:Option Addr} {n:Nat} (h:MatR w A n) (hb:Below w.heap.size w w2):MatR w2 A n:=by obtain⟨a,b,c,V,r⟩:=h;exact⟨a,b,c,V.keep hb,r⟩
theorem MatR.mat {w:World} {A:Option Addr} {n:Nat} (h:MatR w A n):Mat w A n:=by obtain⟨a,b,c,V,r⟩:=h;exact⟨a,b,c,V⟩
theorem Vec.keep {w w2:World} {A:Option Addr} {n:Nat} (h:Vec w A n) (hb:Below w.heap.size w w2):Vec w2 A n:=by obtain⟨c,V⟩:=h;exact⟨c,V.keep hb⟩
theorem VecR.keep {w w2:World} {A:Option Addr} {n:Nat} (h:VecR w A n) (hb:Below w.heap.size w w2):VecR w2 A n:=by obtain⟨c,V,r⟩:=h;exact⟨c,V.keep hb,r⟩
theorem VecR.vec {w:World} {A:Option Addr} {n:Nat} (h:VecR w A n):Vec w A n:=by obtain⟨c,V,r⟩:=h;exact⟨c,V⟩
theorem dim_is {n:Nat} (n1:1<=n) (n2:n<=24):dimB n=true:=by unfold dimB;exact decide_eq_true ⟨n1,n2⟩
theorem vec_yes {n:Nat} {X:Nat->Nat×Nat} (n1:1<=n) (n2:n<=24) (h:∀i,i<n->rightB (X i).1 (X i).2=true):vecB n X=true:=by
 unfold vecB
 rw [all_upto.2 h,dim_is n1 n2]
 rfl
theorem mat_yes {n:Nat} {X:Nat->Nat->Nat×Nat} (n1:1<=n) (n2:n<=24) (h:∀r,r<n->∀c,c<n->rightB (X r c).1 (X r c).2=true):matB n (fun _=>n) X=true:=by
 unfold matB
 rw [all_upto.2 fun r hr=>by simp only [vec_yes n1 n2 (h r hr),decide_true,Bool.and_self],dim_is n1 n2]
 rfl
theorem cMids (A:Option Addr) (n C:Nat) (n1:1<=n) (n2:n<=24) (w:World) (V:Mat w A n) :
  Calls Tryz.prog 228 #[.slice A n C] w fun e w'=>(∃g,e=.returned (.slice (some ⟨g,0,none⟩) n n)/\FinM w' (some ⟨g,0,none⟩) n)/\Below w.heap.size w w':=by
 obtain⟨RA,RC,X,V⟩:=V
 have hw:∀r,r<n->∀c,c<n->(X r c).1<18446744073709551616/\(X r c).2<18446744073709551616:=fun r hr c hc=>rws_words V hr hc
 refine (kmids_w A n C n RA RC X n2 n2 n1 w V).mono ?_
 rintro _ w' ⟨ga,h,k,rfl,R, -, -,hb⟩
 exact⟨⟨ga,rfl,_,_,_,R.rfs (by omega) fun r hr c hc=>kmid_lt (hw r hr c hc).1 (hw r hr c hc).2,fun r hr c hc=>kmid_fin (hw r hr c hc).1 (hw r hr c hc).2⟩,hb⟩
theorem cInv (A:Option Addr) (n C:Nat) (n2:n<=24) (w:World) (V:FinM w A n):Calls Tryz.prog 227 #[.slice A n C] w fun e w'=>InvAns n e w'/\Below w.heap.size w w':=by
 obtain⟨RA,RC,X,V, -⟩:=V
 exact inverse_w A n C RA _ RC X (by omega) w V
theorem cPts (A:Option Addr) (n C:Nat) (n1:1<=n) (n2:n<=24) (w:World) (V:FinM w A n) :
  Calls Tryz.prog 229 #[.slice A n C] w fun e w'=>(∃g,e=.returned (.slice (some ⟨g,0,none⟩) n n)/\MatR w' (some ⟨g,0,none⟩) n)/\Below w.heap.size w w':=by
 obtain⟨RA,RC,F,V,hf⟩:=V
 have hw:∀r,r<n->∀c,c<n->F r c<18446744073709551616:=fun r hr c hc=>rfs_words V hr hc
 have hq:fltB n (fun _=>n) F=true:=by
  unfold fltB
  rw [all_upto.2 fun r hr=>?_,dim_is n1 n2]
  ·rfl
  ·unfold rowFB finsB
   rw [all_upto.2 fun c hc=>hf r hr c hc,dim_is n1 n2,decide_eq_true (show n=n from rfl)]
   rfl
 refine (Points_good A n C RA _ RC F (by omega) hq w V).mono ?_
 rintro _ w' ⟨g,h,rfl,G,hb⟩
 exact⟨⟨g,rfl,_,_,_,G.rws (by omega) fun r hr c hc=>makeP_lt (hw r hr c hc) (hw r hr c hc),fun r hr c hc=>shp_right (mk_shp _ _)⟩,hb⟩
theorem cApp (A B:Option Addr) (n C D:Nat) (n1:1<=n) (n2:n<=24) (w:World) (V:MatR w A n) (U:VecR w B n) :
  Calls Tryz.prog 230 #[.slice A n C,.slice B n D] w fun e w'=>(∃g,e=.returned (.tuple #[.slice (some ⟨g,0,none⟩) n n,.int .i64 0])/\Vec w' (some ⟨g,0,none⟩) n)/\Below w.heap.size w w':=by
 obtain⟨RA,RC,X,V,hX⟩:=V
 obtain⟨Y,U,hY⟩:=U
 refine (apply_good A B n C n D RA _ RC X Y n2 n1 n2 (fun _ _=>rfl) w V U (fun W hW=>?_) (fun W hW=>?_)).mono ?_
 ·have c:=matMay_w A n C RA _ RC X (by omega) W (V.keep hW)
  rw [mat_yes n1 n2 hX] at c
  exact c
 ·have c:=vecMay_w B n D Y (by omega) W (U.keep hW)
  rw [vec_yes n1 n2 hY] at c
  exact c
 ·rintro _ w' ⟨g,rfl,I,hb⟩
  exact⟨⟨g,rfl,_,I.ivs fun r hr=>dotP_lt (fun i hi=>rws_words V hr hi) (fun i hi=>ivs_words U i hi)⟩,hb⟩
theorem cMulM (A B:Option Addr) (n C D:Nat) (n1:1<=n) (n2:n<=24) (w:World) (V:MatR w A n) (U:MatR w B n) :
  Calls Tryz.prog 231 #[.slice A n C,.slice B n D] w fun e w'=>(∃g,e=.returned (.tuple #[.slice (some ⟨g,0,none⟩) n n,.int .i64 0])/\Mat w' (some ⟨g,0,none⟩) n)/\Below w.heap.size w w':=by
 obtain⟨RA,RC,X,V,hX⟩:=V
 obtain⟨SA,SC,Y,U,hY⟩:=U
 refine (Mul_good A B n n n C D RA SA _ RC _ SC X Y n2 n1 n2 n1 n2 (fun _ _=>rfl) (fun _ _=>rfl) w V U (fun W hW=>?_) (fun W hW=>?_)).mono ?_
 ·have c:=matMay_w A n C RA _ RC X (by omega) W (V.keep hW)
  rw [mat_yes n1 n2 hX] at c
  exact c
 ·have c:=matMay_w B n D SA _ SC Y (by omega) W (U.keep hW)
  rw [mat_yes n1 n2 hY] at c
  exact c
 ·rintro _ w' ⟨g,h,rfl,G,hb⟩
  exact⟨⟨g,rfl,_,_,_,G.rws (by omega) fun r hr c hc=>dotP_lt (fun i hi=>rws_words V hr hi) (fun i hi=>rws_words U hi hc)⟩,hb⟩
theorem cLess (A:Option Addr) (n C:Nat) (n1:1<=n) (n2:n<=24) (w:World) (V:Mat w A n) :
  Calls Tryz.prog 232 #[.slice A n C] w fun e w'=>(∃g,e=.returned (.slice (some ⟨g,0,none⟩) n n)/\MatR w' (some ⟨g,0,none⟩) n)/\Below w.heap.size w w':=by
 obtain⟨RA,RC,X,V⟩:=V
 refine (kless_w A n C RA RC X n1 n2 w V).mono ?_
 rintro _ w' ⟨⟨g,SA,rfl,R⟩,hb⟩
 exact⟨⟨g,rfl,_,_,_,R,fun r hr c hc=>shp_right (sub_shp (oneP_lt r c) (rws_words V hr hc))⟩,hb⟩
theorem cSubV (A B:Option Addr) (n C D:Nat) (n2:n<=24) (w:World) (V:Vec w A n) (U:Vec w B n) :
  Calls Tryz.prog 184 #[.func (.func 56) #[] #[],.slice A n C,.slice B n D] w fun e w'=>(∃g,e=.returned (.slice (some ⟨g,0,none⟩) n n)/\VecR w' (some ⟨g,0,none⟩) n)/\Below w.heap.size w w':=by
 obtain⟨X,V⟩:=V
 obtain⟨Y,U⟩:=U
 refine (eachSub_w A B n C D X Y (by omega) w V U).mono ?_
 rintro _ w' ⟨⟨g,rfl,I, -⟩,hb⟩
 exact⟨⟨g,rfl,_,I.ivs fun i hi=>subQ_W2 (ivs_words V i hi) (ivs_words U i hi),fun i hi=>shp_right (sub_shp (ivs_words V i hi) (ivs_words U i hi))⟩,hb⟩
theorem cAddV (A B:Option Addr) (n C D:Nat) (n2:n<=24) (w:World) (V:Vec w A n) (U:Vec w B n) :
  Calls Tryz.prog 184 #[.func (.func 61) #[] #[],.slice A n C,.slice B n D] w fun e w'=>(∃g,e=.returned (.slice (some ⟨g,0,none⟩) n n)/\Vec w' (some ⟨g,0,none⟩) n)/\Below w.heap.size w w':=by
 obtain⟨X,V⟩:=V
 obtain⟨Y,U⟩:=U
 refine (eachAdd_w A B n C D X Y (by omega) w V U).mono ?_
 rintro _ w' ⟨⟨g,rfl,I, -⟩,hb⟩
 exact⟨⟨g,rfl,_,I.ivs fun i hi=>addQ_W2 (ivs_words V i hi) (ivs_words U i hi)⟩,hb⟩
set_option maxRecDepth 8000 in
set_option maxHeartbeats 8000000 in
theorem kraw_w (AB AC AV AS:Option Addr) (n CB CC CV CS:Nat) (n1:1<=n) (n2:n<=24) (w:World) (VB:Vec w AB n) (VC:Vec w AC n) (VV:VecR w AV n) (MS:MatR w AS n) :
  Calls Tryz.prog 183 #[.slice AB n CB,.slice AC n CC,.slice AV n CV,.slice AS n CS] w fun e w'=>(∃vb er,e=.returned (.tuple #[vb,.int .i64 er])/\((∃g,vb=.slice (some ⟨g,0,none⟩) n n/\er=0/\Vec w' (some ⟨g,0,none⟩) n)\/(vb=.slice none 0 0/\er≠0)))/\Below w.heap.size w w':=by
 have HB:Below w.heap.size w w:=Below.refl _ _
 have c1:=fun A C W V=>cMids A n C n1 n2 W V
 have c2:=fun A C W V=>cInv A n C n2 W V
 have c3:=fun A C W V=>cPts A n C n1 n2 W V
 have c4:=fun A B C D W V U=>cApp A B n C D n1 n2 W V U
 have c5:=fun A B C D W V U=>cMulM A B n C D n1 n2 W V U
 have c6:=fun A C W V=>cLess A n C n1 n2 W V
 have c7:=fun A B C D W V U=>cSubV A B n C D n2 W V U
 have c8:=fun A B C D W V U=>cAddV A B n C D n2 W V U
 go_enter Tryz.func183,Tryz.ntmps183
 go_upto_region 2 with (first
  | (go_at_call 228;(with_reducible refine (c1 _ _ _ MS.mat).mono ?_);rintro _ W1 ⟨⟨g1,rfl,F1⟩,hb1⟩;replace VB:=VB.keep hb1;replace VC:=VC.keep hb1;replace VV:=VV.keep hb1;replace MS:=MS.keep hb1;replace HB:=later HB hb1;clear hb1)
  | (go_at_call 227;(with_reducible refine (c2 _ _ _ F1).mono ?_);rintro _ W2 ⟨⟨B,L,er,rfl,hI⟩,hb1⟩;replace VB:=VB.keep hb1;replace VC:=VC.keep hb1;replace VV:=VV.keep hb1;replace MS:=MS.keep hb1;replace HB:=later HB hb1;clear hb1))
 by_cases he:er=0
 ·subst he
  obtain⟨rfl,MI⟩:n=L/\Mat W2 B n:=by
   rcases hI with (h | h) | ⟨-,h,q⟩
   ·omega
   ·omega
   ·exact⟨h,q.rws n2⟩
  clear hI
  go_upto_region 5 with (first
   | (go_at_call 228;(with_reducible refine (c1 _ _ _ MI).mono ?_);rintro _ W3 ⟨⟨g3,rfl,F3⟩,hb1⟩;replace VB:=VB.keep hb1;replace VC:=VC.keep hb1;replace VV:=VV.keep hb1;replace MS:=MS.keep hb1;replace HB:=later HB hb1;clear hb1)
   | (go_at_call 229;(with_reducible refine (c3 _ _ _ F3).mono ?_);rintro _ W4 ⟨⟨g4,rfl,MY⟩,hb1⟩;replace VB:=VB.keep hb1;replace VC:=VC.keep hb1;replace VV:=VV.keep hb1;replace MS:=MS.keep hb1;replace HB:=later HB hb1;clear hb1))
  go_upto_region 6 with (go_at_call 230;(with_reducible refine (c4 _ _ _ _ _ MY VV).mono ?_);rintro _ W5 ⟨⟨g5,rfl,VS⟩,hb1⟩;replace VB:=VB.keep hb1;replace VC:=VC.keep hb1;replace MY:=MY.keep hb1;replace MS:=MS.keep hb1;replace HB:=later HB hb1;clear hb1)
  go_upto_region 7 with (go_at_call 231;(with_reducible refine (c5 _ _ _ _ _ MY MS).mono ?_);rintro _ W6 ⟨⟨g6,rfl,MP⟩,hb1⟩;replace VB:=VB.keep hb1;replace VC:=VC.keep hb1;replace VS:=VS.keep hb1;replace HB:=later HB hb1;clear hb1)
  go_upto_region 8 with (first
   | (go_at_call 232;(with_reducible refine (c6 _ _ _ MP).mono ?_);rintro _ W7 ⟨⟨g7,rfl,ML⟩,hb1⟩;replace VB:=VB.keep hb1;replace VC:=VC.keep hb1;replace VS:=VS.keep hb1;replace HB:=later HB hb1;clear hb1)
   | (go_at_call 184;(with_reducible refine (c7 _ _ _ _ _ VB VC).mono ?_);rintro _ W8 ⟨⟨g8,rfl,VD⟩,hb1⟩;replace ML:=ML.keep hb1;replace VC:=VC.keep hb1;replace VS:=VS.keep hb1;replace HB:=later HB hb1;clear hb1)
   | (go_at_call 230;(with_reducible refine (c4 _ _ _ _ _ ML VD).mono ?_);rintro _ W9 ⟨⟨g9,rfl,VR⟩,hb1⟩;replace VC:=VC.keep hb1;replace VS:=VS.keep hb1;replace HB:=later HB hb1;clear hb1))
  go_wp2_with (first
   | (go_at_call 184;(with_reducible refine (c7 _ _ _ _ _ VC VS).mono ?_);rintro _ W10 ⟨⟨g10,rfl,VT⟩,hb1⟩;replace VR:=VR.keep hb1;replace HB:=later HB hb1;clear hb1)
   | (go_at_call 184;(with_reducible refine (c8 _ _ _ _ _ VT.vec VR).mono ?_);rintro _ W11 ⟨⟨g11,rfl,VZ⟩,hb1⟩;replace HB:=later HB hb1;clear hb1))
  refine bodyPost_ret (v:=.tuple #[.slice (some ⟨g11,0,none⟩) n n,.int .i64 0]) (by simp [results,Tryz.results183,go_sem, *]) rfl ⟨⟨_,_,rfl,Or.inl ⟨g11,rfl,rfl,VZ⟩⟩,HB⟩
 ·have hne:(er != 0)=true:=by simp [he]
  go_wp2_with fail
  refine bodyPost_ret (v:=.tuple #[.slice none 0 0,.int .i64 er]) (by simp [results,Tryz.results183,go_sem, *]) rfl ⟨⟨_,_,rfl,Or.inr ⟨rfl,he⟩⟩,HB⟩
end Go.Proofs.YtopfabemfbdccaaGreat
