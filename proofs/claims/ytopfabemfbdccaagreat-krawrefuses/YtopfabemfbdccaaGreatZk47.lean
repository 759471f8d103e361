/- The inverse of what was scaled, turned back. The greatest powers' bounds; what was picked are rows of no floats, or of as many as there are rows. A column of floats; squares of floats. -/
import Derived.Test.YtopfabemfbdccaaGreatZk46
import Derived.Test.YtopfabemfbdccaaGreatZk22
import Derived.Test.YtopfabemfbdccaaGreatZk23
import Derived.Test.YtopfabemfbdccaaGreatZk29
namespace Go.Proofs.YtopfabemfbdccaaGreat
open Go.ChangeShapes Go.WideShapes Go.ChangeAt Go.RowKit
theorem Has2.block {w w2:World} {b:Nat} {x y:Value} (h:Has2 w b x y) (e:w2.heap[b]?=w.heap[b]?) (hs:w.heap.size<=w2.heap.size):Has2 w2 b x y :=
 ⟨(World.cell?_of_block e).trans h.1,(World.cell?_of_block e).trans h.2.1,(World.frozen?_of_block e).trans h.2.2.1,(World.frozen?_of_block e).trans h.2.2.2.1,Nat.lt_of_lt_of_le h.2.2.2.2 hs⟩
def Pws (w:World) (A:Option Addr) (n:Nat) (P:Nat->Int):Prop:=∀j,j<n->∃b o,A=some ⟨b,o,none⟩/\b<w.heap.size/\w.cell? ⟨b,o+j,none⟩=some (.int .i64 (P j))/\-10000<=P j/\P j<=10000
theorem Pws.keep {w w2:World} {A:Option Addr} {n:Nat} {P:Nat->Int} (h:Pws w A n P) (hb:Below w.heap.size w w2):Pws w2 A n P:=fun j hj=>by
 obtain⟨b,o,e,l,c,r⟩:=h j hj
 exact⟨b,o,e,Nat.lt_of_lt_of_le l hb.size,keepsC hb c l,r⟩
set_option maxHeartbeats 4000000 in
theorem back_w (A SR SC:Option Addr) (N C kr kc:Nat) (RA:Nat->Option Addr) (RL RC:Nat->Nat) (X:Nat->Nat->Nat×Nat) (P Q:Nat->Int) (hN:N<=24) (hN0:0<N) (hR:∀r,r<N->RL r=N) (w:World) (V:Rws w A N RA RL RC X) (U:Pws w SR N P) (T:Pws w SC N Q) :
  Calls Tryz.prog 261 #[.agg #[.slice SR N kr,.slice SC N kc],.slice A N C] w fun e w'=>∃g h F,e=.returned (.slice (some ⟨g,0,none⟩) N N)/\Grd w' g N N h F/\(∀r,r<N->∀c,c<N->(F r c).1<18446744073709551616/\(F r c).2<18446744073709551616)/\Below w.heap.size w w':=by
 have HR:Hid (∀r,r<N->RL r=N):=hR
 have h4:(0:Int)<(N:Int):=by omega
 obtain⟨b,o,hA,hb, -, -, -⟩:=V 0 hN0
 obtain⟨sb,so,hSR, -⟩:=U 0 hN0
 obtain⟨tb,t0,hSC, -⟩:=T 0 hN0
 subst hA
 subst hSR
 subst hSC
 clear hR
 have cg:=fun w=>grid_w N N hN hN w
 go_enter Tryz.func261,Tryz.ntmps261
 go_wp2_with (go_at_call 263;refine (cg _).mono ?_;rintro _ w1 ⟨g,h,rfl,G0,hg,hh,hb0⟩)
 have HX:Hid (Has2 w1 w.heap.size (.slice (some ⟨sb,so,none⟩) N kr) (.slice (some ⟨tb,t0,none⟩) N kc)):=Has2.keep ⟨by go_simp,by go_simp,by go_simp,by go_simp,by go_size⟩ hb0
 have HB:Below w.heap.size w w1:=later (by go_grown) hb0
 have HH:Hid (∀r,r<N->w.heap.size<h r):=fun r hr=>by have:=hh r hr;simp only [World.size_alloc] at this;omega
 clear hb0 hg hh cg
 go_loopg [15] N (fun G s15 wx=>Below w.heap.size w wx/\∃(i:Nat) (F:Nat->Nat->Nat×Nat),i+G=N/\s15=.int .i64 (i:Int)/\Grd wx g N N h F/\Hid (Has2 wx w.heap.size (.slice (some ⟨sb,so,none⟩) N kr) (.slice (some ⟨tb,t0,none⟩) N kc))/\Hid (∀r,r<N->∀c,c<N->(F r c).1<18446744073709551616/\(F r c).2<18446744073709551616))
 case atStart=>exact⟨HB,0,_,by omega,rfl,G0,HX,fun r _ c _=>⟨by simp,by simp⟩⟩
 case round =>
  clear HB G0 HX
  obtain⟨HB,i,F,hi,rfl,G0,HX,HF⟩:=hrel
  by_cases ci:i=N
  ·subst ci
   go_wp2_with fail
   go_ret
   exact⟨g,h,F,rfl,G0,HF,HB⟩
  ·have hlti:(i:Int)<(N:Int):=by omega
   obtain⟨b1,o1,hA1,lb1,v0, -,I⟩:=(V.keep HB) i (by omega)
   rw [HR.out i (by omega)] at v0 I
   simp only [Option.some.injEq,Addr.mk.injEq,and_true] at hA1
   obtain⟨rfl,rfl⟩:=hA1
   clear I
   go_wp2_with fail
   clear v0
   go_loopg [23] N (fun G s23 wy=>Below w.heap.size w wy/\∃(j:Nat) (F:Nat->Nat->Nat×Nat),j+G=N/\s23=.int .i64 (j:Int)/\Grd wy g N N h F/\Hid (Has2 wy w.heap.size (.slice (some ⟨sb,so,none⟩) N kr) (.slice (some ⟨tb,t0,none⟩) N kc))/\Hid (∀r,r<N->∀c,c<N->(F r c).1<18446744073709551616/\(F r c).2<18446744073709551616))
   case atStart=>exact⟨HB,0,F,by omega,rfl,G0,HX,HF⟩
   case round =>
    clear HB G0 HX HF F
    obtain⟨HB,j,F,hj,rfl,G0,HX,HF⟩:=hrel
    by_cases cj:j=N
    ·subst cj
     go_wp2_with fail
     go_roundg (j-i-1)
     case measure=>omega
     case rel=>exact⟨HB,i+1,F,by omega,by go_num,G0,HX,HF⟩
    ·have hltj:(j:Int)<(N:Int):=by omega
     obtain⟨b1,o1,hA1,lb1,v0, -,I⟩:=(V.keep HB) i (by omega)
     rw [HR.out i (by omega)] at v0 I
     simp only [Option.some.injEq,Addr.mk.injEq,and_true] at hA1
     obtain⟨rfl,rfl⟩:=hA1
     obtain⟨b3,o3,hA3,lb3,v1,v2,l1,l2⟩:=I j (by omega)
     rw [hA3] at v0
     obtain⟨b4,o4,hA4,lb4,u0,p1,p2⟩:=(U.keep HB) j (by omega)
     simp only [Option.some.injEq,Addr.mk.injEq,and_true] at hA4
     obtain⟨rfl,rfl⟩:=hA4
     obtain⟨b5,o5,hA5,lb5,y0,q1,q2⟩:=(T.keep HB) i (by omega)
     simp only [Option.some.injEq,Addr.mk.injEq,and_true] at hA5
     obtain⟨rfl,rfl⟩:=hA5
     obtain⟨x0,x1, -, -,x4⟩:=HX.out
     have cc:=fun w=>tp_w (X i j).1 (X i j).2 (-(Q i)-P j) l1 l2 (by omega) (by omega) w
     have tl:(tpP ((X i j).1,(X i j).2) (-(Q i)-P j)).1<18446744073709551616/\(tpP ((X i j).1,(X i j).2) (-(Q i)-P j)).2<18446744073709551616:=⟨rpF_lt l1 _ _,rpF_lt l2 _ _⟩
     obtain⟨g0, -⟩:=G0.out.2 i (by omega)
     have gl:=G0.out.1
     clear I hA3
     generalize tpP ((X i j).1,(X i j).2) (-(Q i)-P j)=z at *
     generalize X i j=x at *
     generalize P j=pj at *
     generalize Q i=qi at *
     go_upto_region 8 with fail
     have k0:=fun n:Behind wr=>n.cell g0 gl
     have k1:=fun n:Behind wr=>n.cell v0 lb1
     have k2:=fun n:Behind wr=>n.cell v1 lb3
     have k3:=fun n:Behind wr=>n.cell v2 lb3
     have k4:=fun n:Behind wr=>n.cell u0 lb4
     have k5:=fun n:Behind wr=>n.cell y0 lb5
     have k6:=fun n:Behind wr=>n.cell x0 x4
     have k7:=fun n:Behind wr=>n.cell x1 x4
     refine tail_behind 25 (by kernel_rfl) (by kernel_rfl) ?_
     simp only [List.take_succ_cons,List.take_zero,List.drop_succ_cons,List.drop_zero]
     repeat (go_big_quiet_step (first
      | (go_at_call 277;with_reducible refine Behind.call (cc _))))
     refine wpQuiet_nil ?_
     rintro _ ⟨q,rfl⟩
     obtain⟨W,hb1⟩:=q
     dsimp only
     clear k0 k1 k2 k3 k4 k5 k6 k7 g0 gl v0 v1 v2 u0 y0 x0 x1 cc
     replace G0:=G0.keep hb1
     replace HB:=later HB hb1
     replace HX:Hid (Has2 W w.heap.size (.slice (some ⟨sb,so,none⟩) N kr) (.slice (some ⟨tb,t0,none⟩) N kc)):=HX.out.keep hb1
     clear hb1
     obtain⟨i0,i1,f0,f1⟩:=id ((G0.row i (by omega)).2 j (by omega))
     go_wp2_with fail
     go_roundg (N-j-1)
     case measure=>omega
     case rel =>
      have hhi:=HH.out i (by omega)
      refine⟨?_,j+1,_,by omega,by go_num,G0.set i j _ _ (by omega) (by omega),HX.out.block ?_ (by go_size),fun r hr c hc=>?_⟩
      ·repeat' (first | (with_reducible exact HB) | (with_reducible refine Below.setCell ?_ ?_ _) | go_size | omega)
      ·rw [Below.heap_setCell _ _ _ _ (by show w.heap.size≠h i;omega),Below.heap_setCell _ _ _ _ (by show w.heap.size≠h i;omega)]
      ·by_cases e:r=i/\c=j
       ·rw [if_pos e]
        exact tl
       ·rw [if_neg e]
        exact HF.out r hr c hc
theorem gp_some (X:Nat->Nat) (D:Nat->Int) (lo hi:Int) (hlo:-100000<=lo) (hhi:hi<=100000):∀n,(∀j,j<n->finB (X j)=true)->(∀j,j<n->zeB (X j)=false->lo<=D j/\D j<=hi)->gpI X D n=-9223372036854775808\/(-1074-hi<=gpI X D n/\gpI X D n<=1035-lo)
 | 0,_,_=>Or.inl rfl
 | n+1,hf,hD=>by
  have ih:=gp_some X D lo hi hlo hhi n (fun j hj=>hf j (by omega)) (fun j hj=>hD j (by omega))
  unfold gpI
  cases hz:zeB (X n)
  ·rw [if_neg (by simp)]
   have b:=pw_bounds (hf n (by omega))
   have d:=hD n (by omega) hz
   right
   omega
  ·rw [if_pos rfl]
   exact ih
theorem gp_seen (X:Nat->Nat) (D:Nat->Int) (lo hi:Int) (hlo:-100000<=lo) (hhi:hi<=100000) (n:Nat) (hf:∀j,j<n->finB (X j)=true) (hD:∀j,j<n->zeB (X j)=false->lo<=D j/\D j<=hi) (j:Nat) (hj:j<n) (hz:zeB (X j)=false):-1074-hi<=gpI X D n/\gpI X D n<=1035-lo:=by
 rcases gp_some X D lo hi hlo hhi n hf hD with h | h
 ·exfalso
  have up:∀m,j<m->m<=n->-1074-hi<=gpI X D m:=fun m=>by
   induction m with
   | zero=>intro h;omega
   | succ m ih =>
    intro h1 h2
    unfold gpI
    by_cases e:j=m
    ·subst e
     rw [hz,if_neg (by simp)]
     have b:=pw_bounds (hf j hj)
     have d:=hD j hj hz
     omega
    ·have q:=ih (by omega) (by omega)
     cases zeB (X m)
     ·rw [if_neg (by simp)];omega
     ·rw [if_pos rfl];exact q
  have:=up n hj (Nat.le_refl _)
  omega
 ·exact h
theorem Pick.rows {w:World} {c n:Nat} {f:Nat->Value} (h:Pick w c n f) (hn:n<=24):∃(RA:Nat->Option Addr) (RL RC:Nat->Nat) (X:Nat->Nat->Nat),Rfs w (some ⟨c,0,none⟩) n RA RL RC X/\∀r,r<n->RL r=0\/RL r=n:=by
 have q:∀r,∃p:Option Addr×Nat×Nat×(Nat->Nat),r<n->f r=.slice p.1 p.2.1 p.2.2.1/\p.2.1<=9223372036854775807/\Fls w p.1 p.2.1 p.2.2.2/\(p.2.1=0\/p.2.1=n):=fun r=>by
  by_cases hr:r<n
  ·rcases h.half r hr with e | ⟨d,e,F⟩
   ·exact⟨(none,0,0,fun _=>0),fun _=>⟨e,by simp,fun i hi=>absurd hi (by simp),Or.inl rfl⟩⟩
   ·obtain⟨X,hX⟩:=F.fls n n (Nat.le_refl _)
    exact⟨(some ⟨d,n,none⟩,n,n,X),fun _=>⟨e,by show n<=_;omega,fun i hi=>⟨d,n,rfl,F.lt,(hX i hi).1,(hX i hi).2⟩,Or.inr rfl⟩⟩
  ·exact⟨(none,0,0,fun _=>0),fun a=>absurd a hr⟩
 obtain⟨R,hR⟩:=Classical.axiomOfChoice q
 refine⟨fun r=>(R r).1,fun r=>(R r).2.1,fun r=>(R r).2.2.1,fun r=>(R r).2.2.2,fun r hr=>?_,fun r hr=>(hR r hr).2.2.2⟩
 obtain⟨e,l,J, -⟩:=hR r hr
 exact⟨c,0,rfl,h.out.1,by rw [Nat.zero_add,(h.out.2 r hr).1,e],l,J⟩
set_option maxHeartbeats 2000000 in
theorem columnF_w (A:Option Addr) (N C j:Nat) (RA:Nat->Option Addr) (RL RC:Nat->Nat) (X:Nat->Nat->Nat) (hN:N<=24) (hR:∀r,r<N->j<RL r) (w:World) (V:Rfs w A N RA RL RC X) :
  Calls Tryz.prog 276 #[.slice A N C,.int .i64 (j:Int)] w fun e w'=>∃g,e=.returned (.slice (some ⟨g,0,none⟩) N N)/\Fls w' (some ⟨g,0,none⟩) N (fun r=>X r j)/\w.heap.size<=g/\Below w.heap.size w w':=by
 have HR:Hid (∀r,r<N->j<RL r):=hR
 clear hR
 go_enter Tryz.func276,Tryz.ntmps276
 go_wp2_with (at_make;refine wpList_makeF (by rfl) _ _ (by rfl) N (by rfl) (by rfl) (by omega) ?_;intro w3 hI HB hS3)
 have HI:Hid (Flo w3 w.heap.size N):=hI
 clear hI
 go_loopg [12] N (fun G s12 wx=>Below w.heap.size w wx/\∃r:Nat,r+G=N/\s12=.int .i64 (r:Int)/\Hid (Flo wx w.heap.size N)/\Hid (∀i,i<r->wx.cell? ⟨w.heap.size,i,none⟩=some (.float .f64 (X i j))/\X i j<18446744073709551616))
 case atStart=>exact⟨HB,0,by omega,rfl,HI,fun i hi=>absurd hi (by omega)⟩
 case round =>
  clear HB HI
  obtain⟨HB,r,hr,rfl,HI,HK⟩:=hrel
  by_cases cr:r=N
  ·subst cr
   go_wp2_with fail
   go_ret
   exact⟨_,rfl,fun i hi=>⟨_,_,rfl,HI.out.lt,by rw [Nat.zero_add];exact (HK.out i hi).1,(HK.out i hi).2⟩,Nat.le_refl _,HB⟩
  ·have hlt:(r:Int)<(N:Int):=by omega
   obtain⟨b',o',hA,hb',x0,l0,I⟩:=(V.keep HB) r (by omega)
   have hjr:=HR.out r (by omega)
   have hlt2:(j:Int)<(RL r:Int):=by omega
   obtain⟨b2,o2,hA2,hb2,y0,ly⟩:=I j hjr
   obtain⟨z,z0,z1, -⟩:=HI.out.at r (by omega)
   have HX:Hid (X r j<18446744073709551616):=ly
   subst hA
   rw [hA2] at x0
   go_wp2_with fail
   go_roundg (N-r-1)
   case measure=>omega
   case rel =>
    refine⟨HB.setCell (Nat.le_refl _) _,r+1,by omega,by go_num,HI.out.set _ _ _ HX,fun i hi=>?_⟩
    by_cases e:i=r
    ·subst e
     exact⟨by go_simp,HX⟩
    ·have m:r≠i:=fun c=>e c.symm
     obtain⟨p,q⟩:=HK.out i (by omega)
     exact⟨by go_simp,q⟩
theorem square_w (A:Option Addr) (N C:Nat) (RA:Nat->Option Addr) (RL RC:Nat->Nat) (X:Nat->Nat->Nat) (hN:N<=9223372036854775807) (w:World) (V:Rfs w A N RA RL RC X) :
  Calls Tryz.prog 250 #[.slice A N C] w fun e w'=>e=.returned (.bool (fltB N RL X&&decide (N=RL 0)))/\Below w.heap.size w w':=by
 have c:=floatsMay_w A N C RA RL RC X hN w V
 cases hf:fltB N RL X
 ·rw [hf] at c
  go_enter Tryz.func250,Tryz.ntmps250
  go_wp2_with (go_at_call 262;refine c.mono ?_;rintro _ w1 ⟨rfl,hb1⟩)
  go_ret
  exact⟨rfl,hb1⟩
 ·rw [hf] at c
  obtain⟨m1,m2, -, -, -⟩:=fltB_parts hf
  obtain⟨b,o,hA,hb,x0,l0, -⟩:=V 0 (by omega)
  rw [Nat.add_zero] at x0
  have h0:(0:Int)<(N:Int):=by omega
  have he:((N:Int)==(RL 0:Int))=decide (N=RL 0):=by
   by_cases q:N=RL 0
   ·rw [<-q];simp
   ·rw [decide_eq_false q];simp;omega
  generalize decide (N=RL 0)=d at *
  subst hA
  go_enter Tryz.func250,Tryz.ntmps250
  go_wp2_with (go_at_call 262;refine c.mono ?_;rintro _ w1 ⟨rfl,hb1⟩;replace x0:=keepsC hb1 x0 hb)
  go_ret
  exact⟨by simp,hb1⟩
end Go.Proofs.YtopfabemfbdccaaGreat
