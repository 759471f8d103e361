/- Slices of floats as they lie in memory; what allFinite answers. Rows of floats as they lie in memory; what floatsMayBe and the reference's finite answer. What the reference's Floats answers. The unit matrix: lin.One. Rows that the reference appends: One. Floats as intervals: the reference's Points. Floats as intervals: lin.Points. Sums of amounts, rounded up: they are always told, and are amounts. Norms: lin.norm and the reference's Norm. lin.Norm with its refusal; Points and One of both sides as rows in memory, under one contract each. LinNorms: the law's walk. Middles and widths: the program's and the reference's are the same; IvalSizes' walk. The greater the intervals are, the greater are sums and products: plain facts, end by end. -/
import Derived.Test.YtopfabemfbdccaaGreatZk21
import Derived.Test.YtopfabemfbdccaaGreatZk03
import Derived.Test.YtopfabemfbdccaaGreatZk22
import Derived.Test.YtopfabemfbdccaaGreatZk17
namespace Go.Proofs.YtopfabemfbdccaaGreat
open Go.ChangeShapes Go.WideShapes Go.ChangeAt Go.RowKit
def Fls (w:World) (A:Option Addr) (n:Nat) (X:Nat->Nat):Prop :=
 ∀i,i<n->∃b o,A=some ⟨b,o,none⟩/\b<w.heap.size/\w.cell? ⟨b,o+i,none⟩=some (.float .f64 (X i))/\X i<18446744073709551616
theorem Fls.keep {w w2:World} {A:Option Addr} {n:Nat} {X:Nat->Nat} (h:Fls w A n X) (hb:Below w.heap.size w w2):Fls w2 A n X:=fun i hi=>by
 obtain⟨b,o,e,l,c0,r⟩:=h i hi
 exact⟨b,o,e,Nat.lt_of_lt_of_le l hb.size,keepsC hb c0 l,r⟩
def finsB (n:Nat) (X:Nat->Nat):Bool:=(List.range n).all (fun i=>finB (X i))
theorem split_fin (x:Nat) (hx:x<18446744073709551616) (w:World) :
  Calls Tryz.prog 167 #[.float .f64 x] w fun r w'=>(∃(g:Bool) (m:Nat) (e:Int),r=.returned (.tuple #[.agg #[.bool g,.int .u64 (m:Int),.int .i64 e],.bool (finB x)]))/\Below w.heap.size w w':=by
 cases hf:finB x
 ·exact (split_not x hx hf w).mono fun r w' ⟨h,b⟩=>⟨⟨false,0,0,h⟩,b⟩
 ·exact (split_w x hx hf w).mono fun r w' ⟨h,b⟩=>⟨⟨_,_,_,h⟩,b⟩
set_option maxHeartbeats 1000000 in
theorem allFin_w (A:Option Addr) (n C:Nat) (X:Nat->Nat) (hC:n<=9223372036854775807) (w:World) (V:Fls w A n X) :
  Calls Tryz.prog 287 #[.slice A n C] w fun e w'=>e=.returned (.bool (finsB n X))/\Below w.heap.size w w':=by
 have cs:=fun (i:Nat) (h1:X i<18446744073709551616) w=>split_fin (X i) h1 w
 go_enter Tryz.func287,Tryz.ntmps287
 go_wp2_with fail
 go_loopg [9] n (fun G s7 wx=>Below w.heap.size w wx/\∃i:Nat,i+G=n/\s7=.int .i64 (i:Int)/\Hid (∀j,j<i->finB (X j)=true))
 case atStart=>exact⟨Below.refl _ _,0,by omega,rfl,fun j hj=>absurd hj (by omega)⟩
 case round =>
  obtain⟨HB,i,hi,rfl,hall⟩:=hrel
  by_cases ci:i=n
  ·subst ci
   have e:finsB i X=true:=all_upto.2 hall
   go_wp2_with fail
   go_ret
   exact⟨(congrArg (fun q=>Ending.returned (Value.bool q)) e).symm,HB⟩
  ·have hlt:(i:Int)<(n:Int):=by omega
   obtain⟨b,o,hA,hb,x0,l0⟩:=(V.keep HB) i (by omega)
   have c:=cs i l0
   have hcase:finB (X i)=true\/finB (X i)=false:=by cases finB (X i) <;> simp
   rcases hcase with hq | hq
   ·rw [hq] at c
    subst hA
    go_wp2_with (go_at_call 167;refine (c _).mono ?_;rintro _ w1 ⟨⟨g,m,ex,rfl⟩,hb1⟩;replace HB:=later HB hb1)
    go_roundg (n-i-1)
    case measure=>omega
    case rel=>exact⟨below_alloc HB _,i+1,by omega,by go_num,fun j hj=>by rcases Nat.lt_or_ge j i with h | h;exact hall j h;rw [show j=i by omega];exact hq⟩
   ·rw [hq] at c
    have e:finsB n X=false:=all_not (i:=i) (by omega) hq
    subst hA
    go_wp2_with (go_at_call 167;refine (c _).mono ?_;rintro _ w1 ⟨⟨g,m,ex,rfl⟩,hb1⟩;replace HB:=later HB hb1)
    go_ret
    exact⟨(congrArg (fun q=>Ending.returned (Value.bool q)) e).symm,below_alloc HB _⟩
def Rfs (w:World) (A:Option Addr) (N:Nat) (RA:Nat->Option Addr) (RL RC:Nat->Nat) (X:Nat->Nat->Nat):Prop :=
 ∀r,r<N->∃b o,A=some ⟨b,o,none⟩/\b<w.heap.size/\w.cell? ⟨b,o+r,none⟩=some (.slice (RA r) (RL r) (RC r))/\RL r<=9223372036854775807/\Fls w (RA r) (RL r) (X r)
theorem Rfs.keep {w w2:World} {A:Option Addr} {N:Nat} {RA:Nat->Option Addr} {RL RC:Nat->Nat} {X:Nat->Nat->Nat} (h:Rfs w A N RA RL RC X) (hb:Below w.heap.size w w2):Rfs w2 A N RA RL RC X:=fun r hr=>by
 obtain⟨b,o,e,l,c0,c1,i⟩:=h r hr
 exact⟨b,o,e,Nat.lt_of_lt_of_le l hb.size,keepsC hb c0 l,c1,i.keep hb⟩
def rowFB (RL:Nat->Nat) (X:Nat->Nat->Nat) (r:Nat):Bool:=decide (RL r=RL 0)&&dimB (RL r)&&finsB (RL r) (X r)
def fltB (N:Nat) (RL:Nat->Nat) (X:Nat->Nat->Nat):Bool:=(List.range N).all (rowFB RL X)&&dimB N
set_option maxHeartbeats 4000000 in
theorem floatsMay_w (A:Option Addr) (N C:Nat) (RA:Nat->Option Addr) (RL RC:Nat->Nat) (X:Nat->Nat->Nat) (hN:N<=9223372036854775807) (w:World) (V:Rfs w A N RA RL RC X) :
   Calls Tryz.prog 262 #[.slice A N C] w fun e w'=>e=.returned (.bool (fltB N RL X))/\Below w.heap.size w w':=by
 go_enter Tryz.func262,Tryz.ntmps262
 go_wp2_with fail
 go_loopg [7] N (fun G s7 wx=>Below w.heap.size w wx/\∃r:Nat,r+G=N/\s7=.int .i64 (r:Int)/\Hid (∀j,j<r->rowFB RL X j=true))
 case atStart=>exact⟨Below.refl _ _,0,by omega,rfl,fun j hj=>absurd hj (by omega)⟩
 case round =>
   obtain⟨HB,r,hr,rfl,hall⟩:=hrel
   by_cases cr:r=N
   · subst cr
     have e:fltB r RL X=dimB r:=by unfold fltB;rw [all_upto.2 hall,Bool.true_and]
     go_wp2_with (go_at_call 284;refine (isDim_w r hN _).mono ?_;rintro _ _ ⟨rfl,rfl⟩)
     go_ret
     exact⟨(congrArg (fun q=>Ending.returned (Value.bool q)) e).symm,HB⟩
   · have hlt:(r:Int)<(N:Int):=by omega
     have hlt0:(0:Int)<(N:Int):=by omega
     obtain⟨b,o,hA,hb,x0,l0,I⟩:=(V.keep HB) r (by omega)
     obtain⟨b',o',hA',hb',x1,l1, -⟩:=(V.keep HB) 0 (by omega)
     have hE:b'=b/\o'=o:=by
       rw [hA] at hA'
       simp only [Option.some.injEq,Addr.mk.injEq] at hA'
       exact⟨hA'.1.symm,hA'.2.1.symm⟩
     obtain⟨rfl,rfl⟩:=hE
     rw [Nat.add_zero] at x1
     clear hA' hb'
     have c:=fun w2 (hw:Below wr.heap.size wr w2)=>allFin_w (RA r) (RL r) (RC r) (X r) l0 w2 (I.keep hw)
     replace c:=c wr (Below.refl _ _)
     have d:=isDim_w (RL r) l0
     have ne:((RL r:Int) != (RL 0:Int))=!decide (RL r=RL 0):=by
       by_cases q:RL r=RL 0
       · simp [q]
       · rw [decide_eq_false q];simp;omega
     have hp:Hid (rowFB RL X r=(decide (RL r=RL 0)&&dimB (RL r)&&finsB (RL r) (X r))):=rfl
     have hno:Hid (rowFB RL X r=false->fltB N RL X=false):=fun h=>by unfold fltB;rw [all_not (i:=r) (by omega) h,Bool.false_and]
     generalize decide (RL r=RL 0)=p at *
     generalize dimB (RL r)=q at *
     generalize finsB (RL r) (X r)=u at *
     subst hA
     cases p <;> cases q <;> cases u
     all_goals
       go_wp2_with (first
         | (go_at_call 284;with_reducible refine (d _).mono ?_;rintro _ _ ⟨rfl,rfl⟩)
         | (go_at_call 287;with_reducible refine c.mono ?_;rintro _ w1 ⟨rfl,hb1⟩;have y1:=keepsC hb1 x1 hb;replace HB:=later HB hb1))
       first
         | (go_ret
            exact⟨(congrArg (fun q=>Ending.returned (Value.bool q)) (hno (by rw [show rowFB RL X r=_ from hp];rfl))).symm,HB⟩)
         | (go_roundg (N-r-1)
            case measure=>omega
            case rel=>exact⟨HB,r+1,by omega,by go_num,fun j hj=>by rcases Nat.lt_or_ge j r with h | h;exact hall j h;rw [show j=r by omega,show rowFB RL X r=_ from hp];rfl⟩)
def oneP (r c:Nat):Nat×Nat:=if r=c then makeP 4607182418800017408 4607182418800017408 else (0,0)
set_option maxHeartbeats 4000000 in
theorem One_good (n:Nat) (h1:1<=n) (h2:n<=24) (w:World):Calls Tryz.prog 256 #[.int .i64 (n:Int)] w fun e w'=>∃g h,e=.returned (.slice (some ⟨g,0,none⟩) n n)/\Grd w' g n n h oneP/\Below w.heap.size w w':=by
 have c:∀w,Calls Tryz.prog 284 #[.int .i64 (n:Int)] w fun e w'=>e=.returned (.bool true)/\w=w':=fun w=>by
  rw [<-dim_yes h1 h2];exact isDim_w n (by omega) w
 have cg:=fun w=>grid_w n n h2 h2 w
 have cp:=fun w=>point_w 4607182418800017408 (by omega) w
 have hP:Hid (oneP=fun r c=>if r=c then makeP 4607182418800017408 4607182418800017408 else (0,0)):=rfl
 generalize makeP 4607182418800017408 4607182418800017408=P at *
 go_enter Tryz.func256,Tryz.ntmps256
 go_wp2_with (first
  | (go_at_call 284;refine (c _).mono ?_;rintro _ _ ⟨rfl,rfl⟩)
  | (go_at_call 263;refine (cg _).mono ?_;rintro _ w1 ⟨g,h,rfl,G0,hg,hh,HB⟩))
 clear c cg
 go_loopg [12] n (fun G s wx=>Below w.heap.size w wx/\∃j:Nat,j+G=n/\s=.int .i64 (j:Int)/\Grd wx g n n h (fun r c=>if r=c/\r<j then P else (0,0)))
 case atStart=>exact⟨HB,0,by omega,rfl,G0.congr fun r _ c _=>by simp⟩
 case round =>
  clear HB G0
  obtain⟨HB,j,hj,rfl,G0⟩:=hrel
  by_cases cj:j=n
  ·subst cj
   go_wp2_with fail
   go_ret
   exact⟨g,h,rfl,by rw [show oneP=_ from hP];exact G0.congr fun r hr c hc=>by simp [hr],HB⟩
  ·have hltj:(j:Int)<(n:Int):=by omega
   obtain⟨g0, -⟩:=G0.out.2 j (by omega)
   have gl:=G0.out.1
   go_upto_region 7 with fail
   have kg0:=fun n:Behind wr=>n.cell g0 gl
   refine tail_behind 6 (by kernel_rfl) (by kernel_rfl) ?_
   simp only [List.take_succ_cons,List.take_zero,List.drop_succ_cons,List.drop_zero]
   repeat (go_big_quiet_step (first
    | (go_at_call 55;with_reducible refine Behind.call (cp _))))
   refine wpQuiet_nil ?_
   rintro _ ⟨q,rfl⟩
   obtain⟨W,hb1⟩:=q
   dsimp only
   clear kg0 g0 gl cp
   replace G0:=G0.keep hb1
   replace HB:=later HB hb1
   clear hb1
   obtain⟨i0,i1,f0,f1⟩:=id ((G0.row j (by omega)).2 j (by omega))
   go_wp2_with fail
   go_roundg (n-j-1)
   case measure=>omega
   case rel =>
    have hhi:=hh j (by omega)
    refine⟨?_,j+1,by omega,by go_num,(G0.set j j _ _ (by omega) (by omega)).congr fun r hr c hc=>?_⟩
    ·repeat' (first | (with_reducible exact HB) | (with_reducible refine Below.setCell ?_ ?_ _) | go_size | omega)
    ·by_cases e:r=j/\c=j
     ·obtain⟨rfl,rfl⟩:=e
      simp
     ·rw [if_neg e]
      by_cases q:r=c/\r<j
      ·rw [if_pos q,if_pos (by omega)]
      ·rw [if_neg q,if_neg (by omega)]
def ptsP (X:Nat->Nat->Nat) (r c:Nat):Nat×Nat:=makeP (X r c) (X r c)
theorem fltB_parts {N:Nat} {RL:Nat->Nat} {X:Nat->Nat->Nat} (h:fltB N RL X=true):1<=N/\N<=24/\(∀r,r<N->RL r=RL 0)/\1<=RL 0/\RL 0<=24:=by
 unfold fltB at h
 rw [Bool.and_eq_true] at h
 obtain⟨a,b⟩:=h
 have b':1<=N/\N<=24:=of_decide_eq_true b
 have q:=all_upto.1 a
 have z:=q 0 (by omega)
 unfold rowFB at z
 simp only [Bool.and_eq_true] at z
 have z':1<=RL 0/\RL 0<=24:=of_decide_eq_true z.1.2
 refine⟨b'.1,b'.2,fun r hr=>?_,z'.1,z'.2⟩
 have y:=q r hr
 unfold rowFB at y
 simp only [Bool.and_eq_true] at y
 exact of_decide_eq_true y.1.1
set_option maxHeartbeats 2000000 in
theorem Points_bad (A:Option Addr) (N C:Nat) (RA:Nat->Option Addr) (RL RC:Nat->Nat) (X:Nat->Nat->Nat) (hN:N<=9223372036854775807) (hf:fltB N RL X=false) (w:World) (V:Rfs w A N RA RL RC X) :
  Calls Tryz.prog 229 #[.slice A N C] w fun e w'=>e=.returned (.slice none 0 0)/\Below w.heap.size w w':=by
 have c:=floatsMay_w A N C RA RL RC X hN w V
 rw [hf] at c
 go_enter Tryz.func229,Tryz.ntmps229
 go_wp2_with (go_at_call 262;refine c.mono ?_;rintro _ w1 ⟨rfl,hb1⟩)
 go_ret
 exact⟨rfl,hb1⟩
set_option maxHeartbeats 8000000 in
theorem Points_new (A:Option Addr) (N C:Nat) (RA:Nat->Option Addr) (RL RC:Nat->Nat) (X:Nat->Nat->Nat) (hN:N<=9223372036854775807) (hf:fltB N RL X=true) (w:World) (V:Rfs w A N RA RL RC X) :
  Calls Tryz.prog 229 #[.slice A N C] w fun e w'=>∃g h,e=.returned (.slice (some ⟨g,0,none⟩) N N)/\Grd w' g N (RL 0) h (ptsP X)/\(∀r,r<N->w.heap.size<=h r)/\Below w.heap.size w w':=by
 have c:=floatsMay_w A N C RA RL RC X hN w V
 rw [hf] at c
 obtain⟨n1,n2,hRL,m1,m2⟩:=fltB_parts hf
 obtain⟨b,o,hA,hb,x0, -, -⟩:=V 0 (by omega)
 rw [Nat.add_zero] at x0
 have HR:Hid (∀r,r<N->RL r=RL 0):=hRL
 clear hf hRL
 obtain⟨L,hL⟩:∃L,L=RL 0:=⟨_,rfl⟩
 have HR':Hid (∀r,r<N->RL r=L):=fun r hr=>(HR r hr).trans hL.symm
 rw [<-hL] at m1 m2 x0 ⊢
 clear hL HR
 have cg:=fun w=>grid_w N L n2 m2 w
 have hlt0:(0:Int)<(N:Int):=by omega
 subst hA
 go_enter Tryz.func229,Tryz.ntmps229
 go_wp2_with (first
  | (go_at_call 262;refine c.mono ?_;rintro _ w1 ⟨rfl,HB⟩;replace x0:=keepsC HB x0 hb)
  | (go_at_call 263;refine (cg _).mono ?_;rintro _ w2 ⟨g,h,rfl,G0,hg,hh,hb1⟩))
 replace hg:w.heap.size<=g:=Nat.le_trans HB.size hg
 replace hh:∀r,r<N->w.heap.size<=h r:=fun r hr=>Nat.le_trans HB.size (hh r hr)
 replace HB:=later HB hb1
 clear c cg hb1 x0
 go_loopg [20] N (fun G s20 wx=>Below w.heap.size w wx/\∃i:Nat,i+G=N/\s20=.int .i64 (i:Int)/\Grd wx g N L h (fun r c=>if r<i then ptsP X r c else (0,0)))
 case atStart=>exact⟨HB,0,by omega,rfl,G0.congr fun r _ c _=>by simp⟩
 case round =>
  clear HB G0
  obtain⟨HB,i,hi,rfl,G0⟩:=hrel
  by_cases ci:i=N
  ·subst ci
   go_wp2_with fail
   go_ret
   exact⟨g,h,rfl,G0.congr fun r hr c hc=>by simp [hr],hh,HB⟩
  ·have hlti:(i:Int)<(N:Int):=by omega
   obtain⟨b',o',hA,hb',y0, -,I⟩:=V i (by omega)
   simp only [Option.some.injEq,Addr.mk.injEq,and_true] at hA
   obtain⟨rfl,rfl⟩:=hA
   rw [HR' i (by omega)] at y0 I
   replace y0:=keepsC HB y0 hb'
   generalize RA i=P at *
   go_wp2_with fail
   go_loopg [27] L (fun G s27 wy=>Below w.heap.size w wy/\∃j:Nat,j+G=L/\s27=.int .i64 (j:Int)/\Grd wy g N L h (fun r c=>if r<i\/(r=i/\c<j) then ptsP X r c else (0,0)))
   case atStart=>exact⟨HB,0,by omega,rfl,G0.congr fun r _ c _=>by simp⟩
   case round =>
    clear HB G0 y0
    obtain⟨HB,j,hj,rfl,G0⟩:=hrel
    by_cases cj:j=L
    ·subst cj
     go_wp2_with fail
     go_roundg (N-i-1)
     case measure=>omega
     case rel =>
      refine⟨HB,i+1,by omega,by go_num,G0.congr fun r hr c hc=>?_⟩
      by_cases q:r<i+1
      ·simp only [q,show r<i\/r=i/\c<j by omega,if_true]
      ·simp only [q,show ¬(r<i\/r=i/\c<j) by omega,if_false]
    ·have hltj:(j:Int)<(L:Int):=by omega
     obtain⟨b2,o2,hA2,hb2,z0,k0⟩:=(I.keep HB) j (by omega)
     have cp:∀w,Calls Tryz.prog 55 #[.float .f64 (X i j)] w fun e w'=>e=.returned (.agg #[.float .f64 (ptsP X i j).1,.float .f64 (ptsP X i j).2])/\Below w.heap.size w w':=fun w=>point_w _ k0 w
     obtain⟨g0, -⟩:=G0.out.2 i (by omega)
     have gl:=G0.out.1
     subst hA2
     go_upto_region 10 with fail
     have kg0:=fun n:Behind wr=>n.cell g0 gl
     refine tail_behind 7 (by kernel_rfl) (by kernel_rfl) ?_
     simp only [List.take_succ_cons,List.take_zero,List.drop_succ_cons,List.drop_zero]
     repeat (go_big_quiet_step (first
      | (go_at_call 55;with_reducible refine Behind.call (cp _))))
     refine wpQuiet_nil ?_
     rintro _ ⟨q,rfl⟩
     obtain⟨W,hb1⟩:=q
     dsimp only
     clear kg0 g0 gl cp z0
     replace G0:=G0.keep hb1
     replace HB:=later HB hb1
     clear hb1
     obtain⟨i0,i1,f0,f1⟩:=id ((G0.row i (by omega)).2 j (by omega))
     go_wp2_with fail
     go_roundg (L-j-1)
     case measure=>omega
     case rel =>
      have hhi:=hh i (by omega)
      refine⟨?_,j+1,by omega,by go_num,(G0.set i j _ _ (by omega) (by omega)).congr fun r hr c hc=>?_⟩
      ·repeat' (first | (with_reducible exact HB) | (with_reducible refine Below.setCell ?_ ?_ _) | go_size | omega)
      ·by_cases e:r=i/\c=j
       ·obtain⟨rfl,rfl⟩:=e
        simp
       ·rw [if_neg e]
        by_cases q:r<i\/r=i/\c<j
        ·rw [if_pos q,if_pos (by omega)]
        ·rw [if_neg q,if_neg (by omega)]
theorem Points_good (A:Option Addr) (N C:Nat) (RA:Nat->Option Addr) (RL RC:Nat->Nat) (X:Nat->Nat->Nat) (hN:N<=9223372036854775807) (hf:fltB N RL X=true) (w:World) (V:Rfs w A N RA RL RC X) :
  Calls Tryz.prog 229 #[.slice A N C] w fun e w'=>∃g h,e=.returned (.slice (some ⟨g,0,none⟩) N N)/\Grd w' g N (RL 0) h (ptsP X)/\Below w.heap.size w w' :=
 (Points_new A N C RA RL RC X hN hf w V).mono fun _ _ ⟨g,h,a,b,_,d⟩=>⟨g,h,a,b,d⟩
def Am (a:Nat):Prop:=a<=9218868437227405312
theorem Am.lt {a:Nat} (h:Am a):a<18446744073709551616:=by unfold Am at h;omega
theorem Am.num {a:Nat} (h:Am a):nanB a=false:=by unfold Am at h;unfold nanB;simp;omega
theorem mag_am {lo hi:Nat}:Am (magP lo hi):=by
 unfold magP
 by_cases h:hsB lo hi=true
 ·rw [if_pos h]
  obtain⟨a,b⟩:=hs_nan h
  unfold nanB at a b
  simp at a b
  unfold Am maxW
  split
  ·exact b
  ·split
   ·split
    ·exact b
    ·exact a
   ·exact a
 ·rw [if_neg h];unfold Am;omega
theorem add_am {a b:Nat} (ha:Am a) (hb:Am b):∃u,addR a b 1=some u/\Am u:=by
 have S:∀{x:Nat},Am x->Some2 0 x:=fun {x} hx=>by
  have k0:key 0=0:=by decide
  have kx:key x=(x:Int):=by unfold Am at hx;unfold key;rw [if_pos (by omega)]
  unfold Am at hx
  constructor <;> first | (show nanB 0=false;decide) | exact Am.num hx | (rw [k0,kx];omega) | (rw [k0];omega) | (rw [kx];omega) | omega
 obtain⟨l,u,e1,e2,T,hl,hu⟩:=add_some (xl:=0) (xh:=a) (yl:=0) (yh:=b) (by omega) ha.lt (by omega) hb.lt (S ha) (S hb)
 have e0:addR 0 0 (-1)=some 0:=by decide
 rw [e0] at e1
 obtain rfl:=Option.some.inj e1
 refine⟨u,e2, ?_⟩
 have nz:=addR_nz e2
 have k0:key 0=0:=by decide
 have le:key 0<=key u:=T.le
 have nu:=T.nh
 rw [k0] at le
 unfold key at le
 unfold nanB at nu
 simp at nu
 unfold Am
 split at le <;> omega
def sumP (X:Nat->Nat×Nat):Nat->Nat
 | 0=>0
 | k+1=>(addR (sumP X k) (magP (X k).1 (X k).2) 1).getD 0
theorem sum_am (X:Nat->Nat×Nat) (k:Nat):Am (sumP X k)/\addR (sumP X k) (magP (X k).1 (X k).2) 1=some (sumP X (k+1)):=by
 have step:∀k,Am (sumP X k)->Am (sumP X (k+1))/\addR (sumP X k) (magP (X k).1 (X k).2) 1=some (sumP X (k+1)):=fun k h=>by
  obtain⟨u,e,hu⟩:=add_am h (mag_am (lo:=(X k).1) (hi:=(X k).2))
  have q:sumP X (k+1)=u:=by show (addR (sumP X k) (magP (X k).1 (X k).2) 1).getD 0=u;rw [e];rfl
  rw [q]
  exact⟨hu,e⟩
 have am:∀k,Am (sumP X k):=fun k=>by
  induction k with
  | zero=>exact Nat.zero_le _
  | succ k ih=>exact (step k ih).1
 exact⟨am k,(step k (am k)).2⟩
def normP (RL:Nat->Nat) (X:Nat->Nat->Nat×Nat):Nat->Nat
 | 0=>0
 | r+1=>if normP RL X r<sumP (X r) (RL r) then sumP (X r) (RL r) else normP RL X r
theorem norm_am (RL:Nat->Nat) (X:Nat->Nat->Nat×Nat) (r:Nat):Am (normP RL X r):=by
 induction r with
 | zero=>exact Nat.zero_le _
 | succ r ih =>
  show Am (if normP RL X r<sumP (X r) (RL r) then sumP (X r) (RL r) else normP RL X r)
  split
  ·exact (sum_am _ _).1
  ·exact ih
theorem sumadd_w (X:Nat->Nat×Nat) (j:Nat) (w:World):Calls Tryz.prog 121 #[.float .f64 (sumP X j),.float .f64 (magP (X j).1 (X j).2),.int .i64 1] w fun e w'=>e=.returned (.float .f64 (sumP X (j+1)))/\Below w.heap.size w w':=by
 obtain⟨a,e⟩:=sum_am X j
 refine (add_w _ _ 1 a.lt mag_am.lt w).mono fun x w' ⟨h,b⟩=>⟨?_,b⟩
 rw [e] at h
 obtain⟨r,hx, -,hr⟩:=h
 rw [hx,show r=_ from hr]
theorem key_am {a:Nat} (h:Am a):key a=(a:Int):=by unfold Am at h;unfold key;rw [if_pos (by omega)]
theorem maxW_am {a b:Nat} (ha:Am a) (hb:Am b):maxW a b=if a<b then b else a:=by
 unfold maxW
 rw [key_am ha,key_am hb]
 by_cases h:a<b
 ·rw [if_pos (by omega),if_pos h]
 ·rw [if_neg (by omega),if_neg h]
  split
  ·split
   ·omega
   ·rfl
  ·rfl
set_option maxHeartbeats 8000000 in
theorem norm_w (A:Option Addr) (N C:Nat) (RA:Nat->Option Addr) (RL RC:Nat->Nat) (X:Nat->Nat->Nat×Nat) (hN:N<=9223372036854775807) (w:World) (V:Rws w A N RA RL RC X) :
  Calls Tryz.prog 258 #[.slice A N C] w fun e w'=>e=.returned (.float .f64 (normP RL X N))/\Below w.heap.size w w':=by
 go_enter Tryz.func258,Tryz.ntmps258
 go_wp2_with fail
 go_loopg [3,11] N (fun G s3 s11 wx=>Below w.heap.size w wx/\∃r:Nat,r+G=N/\s11=.int .i64 (r:Int)/\s3=.float .f64 (normP RL X r))
 case atStart=>exact⟨Below.refl _ _,0,by omega,rfl,rfl⟩
 case round =>
  obtain⟨HB,r,hr,rfl,rfl⟩:=hrel
  by_cases cr:r=N
  ·subst cr
   go_wp2_with fail
   go_ret
   exact⟨rfl,HB⟩
  ·have hlti:(r:Int)<(N:Int):=by omega
   obtain⟨b',o',hA,hb',y0,l0,I⟩:=V r (by omega)
   replace y0:=keepsC HB y0 hb'
   have ma:Hid (Am (normP RL X r)):=norm_am RL X r
   have sa:Hid (Am (sumP (X r) (RL r))):=(sum_am (X r) (RL r)).1
   have nx:Hid (normP RL X (r+1)=if normP RL X r<sumP (X r) (RL r) then sumP (X r) (RL r) else normP RL X r):=rfl
   obtain⟨M,hM⟩:∃M,M=normP RL X r:=⟨_,rfl⟩
   rw [<-hM] at ma nx ⊢
   clear hM
   subst hA
   generalize RA r=P at *
   generalize RL r=L at *
   go_wp2_with fail
   go_loopg [6,17] L (fun G s6 s17 wy=>Below w.heap.size w wy/\∃j:Nat,j+G=L/\s17=.int .i64 (j:Int)/\s6=.float .f64 (sumP (X r) j))
   case atStart=>exact⟨HB,0,by omega,rfl,rfl⟩
   case round =>
    clear HB y0
    obtain⟨HB,j,hj,rfl,rfl⟩:=hrel
    by_cases cj:j=L
    ·subst cj
     have hm:∀ts t w,(Builtin.max_ ts t #[.float .f64 M,.float .f64 (sumP (X r) j)]).run Tryz.prog w=.ok (.float .f64 (maxW M (sumP (X r) j))) w:=fun ts t w=>max_f (Am.lt ma) (Am.lt sa) (Am.num ma) (Am.num sa) _ ts t w
     have nx':Hid (normP RL X (r+1)=maxW M (sumP (X r) j)):=(show normP RL X (r+1)=_ from nx).trans (maxW_am ma sa).symm
     clear nx
     go_wp2_with fail
     go_roundg (N-r-1)
     case measure=>omega
     case rel=>exact⟨HB,r+1,by omega,by go_num,by rw [show normP RL X (r+1)=_ from nx']⟩
    ·have hltj:(j:Int)<(L:Int):=by omega
     obtain⟨b2,o2,hA2,hb2,z0,z1,k0,k1⟩:=(I.keep HB) j (by omega)
     have cm:=fun w=>mag_w (X r j).1 (X r j).2 k0 k1 w
     have ca:=fun w=>sumadd_w (X r) j w
     subst hA2
     go_wp2_with (first
      | (go_at_call 109;refine (cm _).mono ?_;rintro _ w1 ⟨rfl,hb1⟩;replace HB:=later (below_alloc HB _) hb1)
      | (go_at_call 121;refine (ca _).mono ?_;rintro _ w2 ⟨rfl,hb2⟩;replace HB:=later HB hb2))
     go_roundg (L-j-1)
     case measure=>omega
     case rel=>exact⟨HB,j+1,by omega,by go_num,rfl⟩
theorem rfs_words {w:World} {A:Option Addr} {N:Nat} {RA:Nat->Option Addr} {RL RC:Nat->Nat} {X:Nat->Nat->Nat} (V:Rfs w A N RA RL RC X) {r c:Nat} (hr:r<N) (hc:c<RL r):X r c<18446744073709551616:=by
 obtain⟨_,_,_,_,_,_,I⟩:=V r hr
 obtain⟨_,_,_,_,_,q⟩:=I c hc
 exact q
theorem oneP_lt (r c:Nat):(oneP r c).1<18446744073709551616/\(oneP r c).2<18446744073709551616:=by
 unfold oneP
 split
 ·exact makeP_lt (by omega) (by omega)
 ·exact⟨by simp,by simp⟩
def halfF (a:Nat):Nat:=divF a 4611686018427387904 0
theorem half_div {a:Nat} (fa:finB a=true):divR a 4611686018427387904 0=some (halfF a):=divR_fin 0 fa (by decide) (by decide)
theorem half_low {a:Nat} (ha:a<18446744073709551616) (fa:finB a=true) (k:key a<=0):key a<=key (divF a 4611686018427387904 (-1)):=by
 obtain⟨u,hu⟩:∃u:Nat,u=1074:=⟨_,rfl⟩
 obtain⟨u3,hu3⟩:∃u:Nat,u=1075:=⟨_,rfl⟩
 have r3:2^u3=2*2^u:=by rw [show u3=u+1 by omega,Nat.pow_succ,Nat.mul_comm]
 have i3:((2^u3:Nat):Int)=2*((2^u:Nat):Int):=by rw [r3];simp
 have ov:=one_val hu
 have e:=div_exact hu3 ha (b:=4607182418800017408) (by omega) ha fa (by decide) fa (by decide) (by rw [ov,i3,Int.mul_comm 2 (V (key a)),Int.mul_assoc]) (-1)
 have m:V (key 4607182418800017408)<=V (key 4611686018427387904):=V_mono_le (by decide)
 have n:=V_npos k
 clear hu hu3 r3 i3 ov
 rw [<-e]
 refine div_le ha (by omega) ha (by omega) fa (by decide) fa (by decide) (by decide) (by decide) ?_
 exact Int.mul_le_mul_of_nonpos_left n m
theorem half_up {a:Nat} (ha:a<18446744073709551616) (fa:finB a=true):key (divF a 4611686018427387904 1)=- key (divF (negB a) 4611686018427387904 (-1)):=by
 have m:=div_mirror (a:=a) (b:=4611686018427387904) (by omega) fa (by decide) (by decide)
 have f:=div_flip (a:=negB a) (b:=4611686018427387904) (negB_lt ha) (by omega) (by rw [finB_negB ha];exact fa) (by decide) (by decide)
 rw [negB_negB ha] at f
 rw [m,f]
theorem half_key {a:Nat} (ha:a<18446744073709551616) (fa:finB a=true):(0<=key a->0<=key (halfF a)/\key (halfF a)<=key a)/\(key a<=0->key a<=key (halfF a)/\key (halfF a)<=0):=by
 have s:=div_sides (a:=a) (b:=4611686018427387904) ha (by omega) fa (by decide) (by decide)
 have u:=half_up ha fa
 have s1:=s.1.le
 have s2:=s.2.1.le
 have kn:=key_negB ha
 have fn:finB (negB a)=true:=by rw [finB_negB ha];exact fa
 unfold halfF
 refine⟨fun k=>⟨?_, ?_⟩,fun k=>⟨?_, ?_⟩⟩
 ·have:=div_nonneg (a:=a) (b:=4611686018427387904) ha (by omega) fa (by decide) k (by decide)
  exact Int.le_trans this s1
 ·have:=half_low (negB_lt ha) fn (by omega)
  omega
 ·have:=half_low ha fa k
  exact Int.le_trans this s1
 ·have:=div_nonneg (a:=negB a) (b:=4611686018427387904) (negB_lt ha) (by omega) fn (by decide) (by omega) (by decide)
  omega
theorem half_facts {a:Nat} (ha:a<18446744073709551616) (fa:finB a=true):nanB (halfF a)=false/\halfF a<18446744073709551616/\finB (halfF a)=true:=by
 have f:=divF_facts (a:=a) (b:=4611686018427387904) 0 (by decide)
 have k:=half_key ha fa
 have g:=fin_key ha fa
 have hd:divF a 4611686018427387904 0=halfF a:=rfl
 rw [hd] at f
 refine⟨f.1,f.2.2, ?_⟩
 cases h:finB (halfF a)
 ·have:=(key_inf f.2.2 f.1).1 h
  rcases Int.le_total 0 (key a) with c | c
  ·have:=k.1 c;omega
  ·have:=k.2 c;omega
 ·rfl
def midLo (lo:Nat):Nat:=maxW lo 18442240474082181119
def midHi (hi:Nat):Nat:=minW hi 9218868437227405311
def midM (lo hi:Nat):Nat:=addF (halfF (midLo lo)) (halfF (midHi hi)) 0
def midP (lo hi:Nat):Nat:=if hsB lo hi then (if key (midM lo hi)<key (midLo lo) then midLo lo else if key (midHi hi)<key (midM lo hi) then midHi hi else midM lo hi) else 0
theorem midM_facts (lo hi:Nat):nanB (midM lo hi)=false/\midM lo hi≠9223372036854775808/\midM lo hi<18446744073709551616:=by
 unfold midM
 exact addF_facts _ _ 0
theorem midM_is {lo hi:Nat} (f1:finB (halfF (midLo lo))=true) (f2:finB (halfF (midHi hi))=true):addR (halfF (midLo lo)) (halfF (midHi hi)) 0=some (midM lo hi):=by
 unfold midM
 exact addR_fin 0 f1 f2
theorem mid_ends {lo hi:Nat} (hl:lo<18446744073709551616) (hh:hi<18446744073709551616) (S:Some2 lo hi):(midLo lo=if eqB lo (infI (-1)) then 18442240474082181119 else lo)/\(midHi hi=if eqB hi (infI 1) then 9218868437227405311 else hi)/\finB (midLo lo)=true/\finB (midHi hi)=true/\midLo lo<18446744073709551616/\midHi hi<18446744073709551616/\midLo lo≠9223372036854775808/\midHi hi≠9223372036854775808/\key (midLo lo)<=key (midHi hi):=by
 have ei:eqB lo (infI (-1))=decide (key lo=-9218868437227405312):=by unfold eqB;rw [S.nl,nan_inf,key_down];rfl
 have ej:eqB hi (infI 1)=decide (key hi=9218868437227405312):=by unfold eqB;rw [S.nh,nan_inf,key_up];rfl
 have k1:key 18442240474082181119=-9218868437227405311:=by decide
 have k2:key 9218868437227405311=9218868437227405311:=by decide
 have g1:=nanB_key hl S.nl
 have g2:=nanB_key hh S.nh
 have sl:=S.lt
 have sg:=S.gt
 have sle:=S.le
 have F:∀{x:Nat},x<18446744073709551616->nanB x=false->key x≠9218868437227405312->key x≠-9218868437227405312->finB x=true:=fun {x} hx nx n1 n2=>by
  cases h:finB x
  ·rcases (key_inf hx nx).1 h with c | c
   ·exact absurd c n1
   ·exact absurd c n2
  ·rfl
 unfold midLo midHi
 rw [maxW_is S.zl (by omega),minW_is S.zh (by omega),ei,ej,k1,k2]
 by_cases c1:key lo < -9218868437227405311
 ·have q:key lo=-9218868437227405312:=by omega
  rw [if_pos c1,decide_eq_true q,if_pos rfl]
  by_cases c2:9218868437227405311<key hi
  ·have q2:key hi=9218868437227405312:=by omega
   rw [if_pos c2,decide_eq_true q2,if_pos rfl]
   exact⟨rfl,rfl,by decide,by decide,by omega,by omega,by omega,by omega,by rw [k1,k2];omega⟩
  ·have q2:¬key hi=9218868437227405312:=by omega
   rw [if_neg c2,decide_eq_false q2,if_neg (by simp)]
   exact⟨rfl,rfl,by decide,F hh S.nh q2 (by omega),by omega,hh,by omega,S.zh,by rw [k1];omega⟩
 ·have q:¬key lo=-9218868437227405312:=by omega
  rw [if_neg c1,decide_eq_false q,if_neg (by simp)]
  by_cases c2:9218868437227405311<key hi
  ·have q2:key hi=9218868437227405312:=by omega
   rw [if_pos c2,decide_eq_true q2,if_pos rfl]
   exact⟨rfl,rfl,F hl S.nl (by omega) q,by decide,hl,by omega,S.zl,by omega,by rw [k2];omega⟩
  ·have q2:¬key hi=9218868437227405312:=by omega
   rw [if_neg c2,decide_eq_false q2,if_neg (by simp)]
   exact⟨rfl,rfl,F hl S.nl (by omega) q,F hh S.nh q2 (by omega),hl,hh,S.zl,S.zh,sle⟩
set_option maxHeartbeats 1000000 in
theorem mid_core (lo hi l h p q m x r:Nat) (b:Bool)
   (c0:∀b' W,W.cell? ⟨b',0,none⟩=some (.float .f64 lo)->W.cell? ⟨b',1,none⟩=some (.float .f64 hi)->Calls Tryz.prog 103 #[.slice (some ⟨b',0,none⟩) 1 1] W fun e w'=>e=.returned (.bool (!b))/\Below W.heap.size W w')
   (m1:b=true->∀ts t w,(Builtin.max_ ts t #[.float .f64 lo,.float .f64 18442240474082181119]).run Tryz.prog w=.ok (.float .f64 l) w)
   (m2:b=true->∀ts t w,(Builtin.min_ ts t #[.float .f64 hi,.float .f64 9218868437227405311]).run Tryz.prog w=.ok (.float .f64 h) w)
   (c1:b=true->∀w,Calls Tryz.prog 210 #[.float .f64 l,.float .f64 4611686018427387904,.int .i64 0] w fun e w'=>e=.returned (.float .f64 p)/\Below w.heap.size w w')
   (c2:b=true->∀w,Calls Tryz.prog 210 #[.float .f64 h,.float .f64 4611686018427387904,.int .i64 0] w fun e w'=>e=.returned (.float .f64 q)/\Below w.heap.size w w')
   (c3:b=true->∀w,Calls Tryz.prog 121 #[.float .f64 p,.float .f64 q,.int .i64 0] w fun e w'=>e=.returned (.float .f64 m)/\Below w.heap.size w w')
   (m3:b=true->∀ts t w,(Builtin.max_ ts t #[.float .f64 m,.float .f64 l]).run Tryz.prog w=.ok (.float .f64 x) w)
   (m4:b=true->∀ts t w,(Builtin.min_ ts t #[.float .f64 x,.float .f64 h]).run Tryz.prog w=.ok (.float .f64 r) w) (w:World) :
   Calls Tryz.prog 150 #[.agg #[.float .f64 lo,.float .f64 hi]] w fun e w'=>e=.returned (.float .f64 (if b then r else 0))/\Below w.heap.size w w':=by
 cases b
 · clear m1 m2 m3 m4 c1 c2 c3
   simp only [Bool.not_false,Bool.false_eq_true,if_false] at c0 ⊢
   go_enter Tryz.func150,Tryz.ntmps150
   go_wp2_with (go_at_call 103;refine (c0 (w.heap.size+1) _ (by go_simp) (by go_simp)).mono ?_;rintro _ w1 ⟨rfl,hb1⟩)
   go_ret
   exact⟨rfl,later (by go_grown) hb1⟩
 · replace m1:=m1 rfl
   replace m2:=m2 rfl
   replace m3:=m3 rfl
   replace m4:=m4 rfl
   replace c1:=c1 rfl
   replace c2:=c2 rfl
   replace c3:=c3 rfl
   simp only [Bool.not_true,if_true] at c0 ⊢
   go_enter Tryz.func150,Tryz.ntmps150
   go_upto_region 3 with
    (go_at_call 103;refine (c0 (w.heap.size+1) _ (by go_simp) (by go_simp)).mono ?_;rintro _ w1 ⟨rfl,hb1⟩
     have X:Has2 w1 w.heap.size (.float .f64 lo) (.float .f64 hi):=Has2.keep ⟨by go_simp,by go_simp,by go_simp,by go_simp,by go_size⟩ hb1
     have HB:Below w.heap.size w w1:=later (by go_grown) hb1)
   clear hb1 c0
   have kx0:=fun n:Behind w1=>n.cell X.1 X.2.2.2.2
   have kx1:=fun n:Behind w1=>n.cell X.2.1 X.2.2.2.2
   refine region_behind (by kernel_rfl) (by kernel_rfl) ?_
   repeat (go_big_quiet_step (fail))
   refine wpQuiet_nil ?_
   rintro _ ⟨n,rfl⟩
   obtain⟨W,hb1⟩:=n
   dsimp only
   clear kx0 kx1
   replace HB:=later HB hb1
   clear hb1
   go_wp2_with (first
     | (go_at_call_of 210 (Value.float .f64 l);refine (c1 _).mono ?_;rintro _ w2 ⟨rfl,hb1⟩;replace HB:=later HB hb1;clear hb1)
     | (go_at_call 210;refine (c2 _).mono ?_;rintro _ w2 ⟨rfl,hb1⟩;replace HB:=later HB hb1;clear hb1)
     | (go_at_call 121;refine (c3 _).mono ?_;rintro _ w2 ⟨rfl,hb1⟩;replace HB:=later HB hb1;clear hb1))
   go_ret
   exact⟨rfl,HB⟩
theorem Mid_w (lo hi:Nat) (hl:lo<18446744073709551616) (hh:hi<18446744073709551616) (w:World):Calls Tryz.prog 150 #[.agg #[.float .f64 lo,.float .f64 hi]] w fun e w'=>e=.returned (.float .f64 (midP lo hi))/\Below w.heap.size w w':=by
 have c0:=fun b W c0 c1=>someEmpty1_w b lo hi hl hh W c0 c1
 have E:=fun h=>mid_ends hl hh (hs_iff.1 h)
 have P:=fun h=>half_facts (E h).2.2.2.2.1 (E h).2.2.1
 have Q:=fun h=>half_facts (E h).2.2.2.2.2.1 (E h).2.2.2.1
 have N:=fun h=>fin_not_nan (E h).2.2.1
 have O:=fun h=>fin_not_nan (E h).2.2.2.1
 have M:=midM_facts lo hi
 have X:hsB lo hi=true->minW (maxW (midM lo hi) (midLo lo)) (midHi hi)=(if key (midM lo hi)<key (midLo lo) then midLo lo else if key (midHi hi)<key (midM lo hi) then midHi hi else midM lo hi):=fun h=>by
  have k:=(E h).2.2.2.2.2.2.2.2
  rw [maxW_is M.2.1 (E h).2.2.2.2.2.2.1]
  by_cases c:key (midM lo hi)<key (midLo lo)
  ·rw [if_pos c,if_pos c,minW_is (E h).2.2.2.2.2.2.1 (E h).2.2.2.2.2.2.2.1,if_neg (by omega)]
  ·rw [if_neg c,if_neg c,minW_is M.2.1 (E h).2.2.2.2.2.2.2.1]
 have q:=mid_core lo hi (midLo lo) (midHi hi) (halfF (midLo lo)) (halfF (midHi hi)) (midM lo hi) (maxW (midM lo hi) (midLo lo)) (minW (maxW (midM lo hi) (midLo lo)) (midHi hi)) (hsB lo hi) c0
  (fun h ts t w=>max_f hl (by omega) (hs_nan h).1 (by decide) _ ts t w) (fun h ts t w=>min_f hh (by omega) (hs_nan h).2 (by decide) _ ts t w)
  (fun h=>told_calls (half_div (E h).2.2.1) (fun w=>div_w _ _ 0 (E h).2.2.2.2.1 (by omega) w)) (fun h=>told_calls (half_div (E h).2.2.2.1) (fun w=>div_w _ _ 0 (E h).2.2.2.2.2.1 (by omega) w))
  (fun h=>told_calls (midM_is (P h).2.2 (Q h).2.2) (fun w=>add_w _ _ 0 (P h).2.1 (Q h).2.1 w))
  (fun h ts t w=>max_f M.2.2 (E h).2.2.2.2.1 M.1 (N h) _ ts t w)
  (fun h ts t w=>min_f (by rw [maxW_is M.2.1 (E h).2.2.2.2.2.2.1];split;exact (E h).2.2.2.2.1;exact M.2.2) (E h).2.2.2.2.2.1 (by rw [maxW_is M.2.1 (E h).2.2.2.2.2.2.1];split;exact N h;exact M.1) (O h) _ ts t w) w
 unfold midP
 cases h:hsB lo hi
 ·rw [h,if_neg (by simp)] at q
  rw [if_neg (by simp)]
  exact q
 ·rw [h,if_pos rfl] at q
  rw [if_pos rfl,<-X h]
  exact q
def widP (lo hi:Nat):Nat:=if hsB lo hi then (if eqB lo (infI (-1)) || eqB hi (infI 1) then infI 1 else addF hi (negB lo) 1) else 0
theorem wid_is {lo hi:Nat} (hl:lo<18446744073709551616) (hh:hi<18446744073709551616) (S:Some2 lo hi):addR hi (negB lo) 1=some (widP lo hi):=by
 have ei:eqB lo (infI (-1))=decide (key lo=-9218868437227405312):=by unfold eqB;rw [S.nl,nan_inf,key_down];rfl
 have ej:eqB hi (infI 1)=decide (key hi=9218868437227405312):=by unfold eqB;rw [S.nh,nan_inf,key_up];rfl
 have nn:nanB (negB lo)=false:=by rw [nanB_negB hl];exact S.nl
 have fn:=finB_negB hl
 have sl:=S.lt
 have sg:=S.gt
 have wh:=key_word hh
 have wl:=key_word hl
 unfold widP
 rw [hs_iff.2 S,if_pos rfl,ei,ej]
 unfold addR
 rw [S.nh,nn,fn]
 simp only [Bool.or_self,Bool.false_eq_true,if_false]
 cases f1:finB lo
 ·have k1:key lo=-9218868437227405312:=by rcases (key_inf hl S.nl).1 f1 with c | c <;> omega
  have e1:=wl.2 k1
  subst e1
  cases f2:finB hi
  ·have k2:key hi=9218868437227405312:=by rcases (key_inf hh S.nh).1 f2 with c | c <;> omega
   have e2:=wh.1 k2
   subst e2
   rfl
  ·have k3:decide (key 18442240474082181120=-9218868437227405312)=true:=by decide
   rw [k3]
   rfl
 ·have k1:¬key lo=-9218868437227405312:=fun c=>by
   have:=(key_inf hl S.nl).2 (Or.inr c)
   rw [f1] at this
   cases this
  cases f2:finB hi
  ·have k2:key hi=9218868437227405312:=by rcases (key_inf hh S.nh).1 f2 with c | c <;> omega
   have e2:=wh.1 k2
   subst e2
   simp only [k1,decide_false,Bool.false_or]
   rfl
  ·have k2:¬key hi=9218868437227405312:=fun c=>by
    have:=(key_inf hh S.nh).2 (Or.inl c)
    rw [f2] at this
    cases this
   simp only [k1,k2,decide_false,Bool.or_self,Bool.and_self,if_true,Bool.false_eq_true,if_false]
theorem wid_core (lo hi r:Nat) (b:Bool)
   (c0:∀b' W,W.cell? ⟨b',0,none⟩=some (.float .f64 lo)->W.cell? ⟨b',1,none⟩=some (.float .f64 hi)->Calls Tryz.prog 103 #[.slice (some ⟨b',0,none⟩) 1 1] W fun e w'=>e=.returned (.bool (!b))/\Below W.heap.size W w')
   (c1:b=true->∀w,Calls Tryz.prog 235 #[.float .f64 hi,.float .f64 lo,.int .i64 1] w fun e w'=>e=.returned (.float .f64 r)/\Below w.heap.size w w') (hr:b=false->r=0) (w:World) :
   Calls Tryz.prog 187 #[.agg #[.float .f64 lo,.float .f64 hi]] w fun e w'=>e=.returned (.float .f64 r)/\Below w.heap.size w w':=by
 cases b
 · have e:=hr rfl
   subst e
   clear c1
   simp only [Bool.not_false] at c0
   go_enter Tryz.func187,Tryz.ntmps187
   go_wp2_with (go_at_call 103;refine (c0 (w.heap.size+1) _ (by go_simp) (by go_simp)).mono ?_;rintro _ w1 ⟨rfl,hb1⟩)
   go_ret
   exact⟨rfl,later (by go_grown) hb1⟩
 · replace c1:=c1 rfl
   clear hr
   simp only [Bool.not_true] at c0
   go_enter Tryz.func187,Tryz.ntmps187
   go_wp2_with (first
     | (go_at_call 103;refine (c0 (w.heap.size+1) _ (by go_simp) (by go_simp)).mono ?_;rintro _ w1 ⟨rfl,hb1⟩
        have X:Has2 w1 w.heap.size (.float .f64 lo) (.float .f64 hi):=Has2.keep ⟨by go_simp,by go_simp,by go_simp,by go_simp,by go_size⟩ hb1
        have HB:Below w.heap.size w w1:=later (by go_grown) hb1
        obtain⟨x0,x1,x2,x3,x4⟩:=id X)
     | (go_at_call 235;refine (c1 _).mono ?_;rintro _ w2 ⟨rfl,hb2⟩))
   go_ret
   exact⟨rfl,later HB hb2⟩
theorem Wid_w (lo hi:Nat) (hl:lo<18446744073709551616) (hh:hi<18446744073709551616) (w:World):Calls Tryz.prog 187 #[.agg #[.float .f64 lo,.float .f64 hi]] w fun e w'=>e=.returned (.float .f64 (widP lo hi))/\Below w.heap.size w w' :=
 wid_core lo hi _ _ (fun b W c0 c1=>someEmpty1_w b lo hi hl hh W c0 c1) (fun h=>told_calls (wid_is hl hh (hs_iff.1 h)) (fun w=>sub_w hi lo 1 hh hl w)) (fun h=>by unfold widP;rw [h];rfl) w
structure In (xl xh ul uh:Nat):Prop where
 S:Some2 xl xh
 T:Some2 ul uh
 kl:key ul<=key xl
 kh:key xh<=key uh
 a1:xl<18446744073709551616
 a2:xh<18446744073709551616
 b1:ul<18446744073709551616
 b2:uh<18446744073709551616
def Gr (p q:Nat×Nat):Prop:=(p=(infI 1,infI (-1))/\(q=(infI 1,infI (-1))\/Some2 q.1 q.2))\/(Some2 p.1 p.2/\Some2 q.1 q.2/\key q.1<=key p.1/\key p.2<=key q.2)
theorem empty_some:hsB (infI 1) (infI (-1))=false:=by decide
theorem gr_empty:Gr (infI 1,infI (-1)) (infI 1,infI (-1)):=Or.inl ⟨rfl,Or.inl rfl⟩
theorem gr_some {p q:Nat×Nat} (S:Some2 p.1 p.2) (T:Some2 q.1 q.2) (k1:key q.1<=key p.1) (k2:key p.2<=key q.2):Gr p q:=Or.inr ⟨S,T,k1,k2⟩
theorem In.refl {xl xh:Nat} (h1:xl<18446744073709551616) (h2:xh<18446744073709551616) (S:Some2 xl xh):In xl xh xl xh:=⟨S,S,Int.le_refl _,Int.le_refl _,h1,h2,h1,h2⟩
theorem addR_bot {a b r:Nat} {d:Int} (ha:a<18446744073709551616) (na:nanB a=false) (k:key a=-9218868437227405312) (h:addR a b d=some r):r=a:=by
 have fa:=(key_inf ha na).2 (Or.inr k)
 unfold addR at h
 rw [fa] at h
 split at h
 ·cases h
 ·simp only [Bool.false_and,Bool.false_eq_true,if_false] at h
  split at h
  ·cases h
  ·exact (Option.some.inj h).symm
theorem addR_bot2 {a b r:Nat} {d:Int} (ha:a<18446744073709551616) (hb:b<18446744073709551616) (na:nanB a=false) (nb:nanB b=false) (k:key b=-9218868437227405312) (h:addR a b d=some r):key r=-9218868437227405312:=by
 have fb:=(key_inf hb nb).2 (Or.inr k)
 have zb:isZ b=false:=isZ_pos hb (by omega)
 have sb:=sign_key hb zb
 unfold addR at h
 rw [fb,na,nb] at h
 simp only [Bool.or_self,Bool.and_false,Bool.false_eq_true,if_false,Bool.not_false,Bool.and_true] at h
 cases fa:finB a
 ·rw [fa] at h
  have za:isZ a=false:=by
   cases z:isZ a
   ·rfl
   ·have:=(key_zero ha).1 z
    rcases (key_inf ha na).1 fa with c | c <;> omega
  have sa:=sign_key ha za
  simp only [Bool.not_false,Bool.true_and,Bool.false_eq_true,if_false] at h
  split at h
  ·cases h
  ·rename_i hc
   have e:=(Option.some.inj h).symm
   rw [e]
   rcases (key_inf ha na).1 fa with c | c
   ·rw [sa,sb,decide_eq_false (by omega),decide_eq_true (by omega)] at hc
    exact absurd rfl hc
   ·exact c
 ·rw [fa] at h
  simp only [Bool.not_true,Bool.false_and,Bool.false_eq_true,if_false,if_true] at h
  rw [<-Option.some.inj h]
  exact k
theorem addR_word {a b r:Nat} {d:Int} (ha:a<18446744073709551616) (hb:b<18446744073709551616) (h:addR a b d=some r):r<18446744073709551616/\nanB r=false:=by
 have f:=addF_facts a b d
 unfold addR at h
 generalize addF a b d=q at *
 split at h
 ·cases h
 ·rename_i hn
  have na:nanB a=false:=by cases z:nanB a <;> simp_all
  have nb:nanB b=false:=by cases z:nanB b <;> simp_all
  split at h
  ·rw [<-Option.some.inj h];exact⟨f.2.2,f.1⟩
  ·split at h
   ·cases h
   ·rw [<-Option.some.inj h]
    split
    ·exact⟨hb,nb⟩
    ·exact⟨ha,na⟩
theorem add_low {p q c d l m:Nat} (hp:p<18446744073709551616) (hq:q<18446744073709551616) (hc:c<18446744073709551616) (hd:d<18446744073709551616) (np:nanB p=false) (nq:nanB q=false) (nc:nanB c=false) (nd:nanB d=false)
  (kc:key c<9218868437227405312) (kd:key d<9218868437227405312) (h1:key p<=key c) (h2:key q<=key d) (e:addR c d (-1)=some l) (e':addR p q (-1)=some m):key m<=key l:=by
 have wl:=addR_word hc hd e
 have hl:=(key_range wl.1 wl.2).1
 have rc:=key_range hc nc
 have rd:=key_range hd nd
 have rp:=key_range hp np
 have rq:=key_range hq nq
 cases fc:finB c
 ·have kc':key p=-9218868437227405312:=by rcases (key_inf hc nc).1 fc with z | z <;> omega
  rw [addR_bot hp np kc' e',kc']
  exact hl
 ·cases fd:finB d
  ·have kd':key q=-9218868437227405312:=by rcases (key_inf hd nd).1 fd with z | z <;> omega
   rw [addR_bot2 hp hq np nq kd' e']
   exact hl
  ·obtain⟨r,t,g1,g2,g⟩:=addR_low hp hq hc hd np nq fc fd h1 h2
   rw [e'] at g1
   rw [e] at g2
   have g1:=Option.some.inj g1
   have g2:=Option.some.inj g2
   rw [g1,g2]
   exact g.le
theorem add_high {p q c d l m:Nat} (hp:p<18446744073709551616) (hq:q<18446744073709551616) (hc:c<18446744073709551616) (hd:d<18446744073709551616) (np:nanB p=false) (nq:nanB q=false) (nc:nanB c=false) (nd:nanB d=false)
  (kc:-9218868437227405312<key c) (kd:-9218868437227405312<key d) (h1:key c<=key p) (h2:key d<=key q) (e:addR c d 1=some l) (e':addR p q 1=some m):key l<=key m:=by
 have m1:=addR_mirror (negB_lt hc) (negB_lt hd)
 have m2:=addR_mirror (negB_lt hp) (negB_lt hq)
 rw [negB_negB hc,negB_negB hd,e] at m1
 rw [negB_negB hp,negB_negB hq,e'] at m2
 rcases m1 with ⟨-,z⟩ | ⟨x,y,g1,g2,lx,ly,k⟩
 ·cases z
 ·rcases m2 with ⟨-,z⟩ | ⟨x2,y2,g3,g4,lx2,ly2,k2⟩
  ·cases z
  ·have g2:=Option.some.inj g2
   have g4:=Option.some.inj g4
   rw [<-g2] at k
   rw [<-g4] at k2
   have kx:=add_low (negB_lt hp) (negB_lt hq) (negB_lt hc) (negB_lt hd) (by rw [nanB_negB hp];exact np) (by rw [nanB_negB hq];exact nq) (by rw [nanB_negB hc];exact nc) (by rw [nanB_negB hd];exact nd)
    (by rw [key_negB hc];omega) (by rw [key_negB hd];omega) (by rw [key_negB hp,key_negB hc];omega) (by rw [key_negB hq,key_negB hd];omega) g1 g3
   omega
theorem add_gr {xl xh ul uh yl yh vl vh:Nat} (X:In xl xh ul uh) (Y:In yl yh vl vh):Gr (addP xl xh yl yh) (addP ul uh vl vh):=by
 obtain⟨l,u,e1,e2,A, -, -⟩:=add_some X.a1 X.a2 Y.a1 Y.a2 X.S Y.S
 obtain⟨l',u',e1',e2',A', -, -⟩:=add_some X.b1 X.b2 Y.b1 Y.b2 X.T Y.T
 have p1:addP xl xh yl yh=(l,u):=by unfold addP;rw [hs_iff.2 X.S,hs_iff.2 Y.S,e1,e2];rfl
 have p2:addP ul uh vl vh=(l',u'):=by unfold addP;rw [hs_iff.2 X.T,hs_iff.2 Y.T,e1',e2'];rfl
 rw [p1,p2]
 exact gr_some A A' (add_low X.b1 Y.b1 X.a1 Y.a1 X.T.nl Y.T.nl X.S.nl Y.S.nl X.S.lt Y.S.lt X.kl Y.kl e1 e1') (add_high X.b2 Y.b2 X.a2 Y.a2 X.T.nh Y.T.nh X.S.nh Y.S.nh X.S.gt Y.S.gt X.kh Y.kh e2 e2')
theorem neg_in {xl xh ul uh:Nat} (X:In xl xh ul uh):In (negP (xl,xh)).1 (negP (xl,xh)).2 (negP (ul,uh)).1 (negP (ul,uh)).2:=by
 have e1:negP (xl,xh)=mirrorP (xl,xh):=by unfold negP;rw [if_pos (hs_iff.2 X.S)]
 have e2:negP (ul,uh)=mirrorP (ul,uh):=by unfold negP;rw [if_pos (hs_iff.2 X.T)]
 obtain⟨S,k1,k2,l1,l2⟩:=mirror_some X.a1 X.a2 X.S
 obtain⟨T,k3,k4,l3,l4⟩:=mirror_some X.b1 X.b2 X.T
 have h1:=X.kl
 have h2:=X.kh
 rw [e1,e2]
 exact⟨S,T,by omega,by omega,l1,l2,l3,l4⟩
theorem mul_keys {xl xh yl yh:Nat} (h1:xl<18446744073709551616) (h2:xh<18446744073709551616) (h3:yl<18446744073709551616) (h4:yh<18446744073709551616) (S:Some2 xl xh) (T:Some2 yl yh) :
  Some2 (mulP xl xh yl yh).1 (mulP xl xh yl yh).2/\key (mulP xl xh yl yh).1=lowK xl xh yl yh/\key (mulP xl xh yl yh).2=topK xl xh yl yh:=by
 obtain⟨a,X⟩:=held_some h1 h2 S
 obtain⟨b,Y⟩:=held_some h3 h4 T
 obtain⟨m1,m2, -,Z,l1,l2,k1,k2⟩:=mul_ends X Y
 have e:mulP xl xh yl yh=(m1,m2):=by unfold mulP;rw [hs_iff.2 S,hs_iff.2 T,<-rmul_is S.nl S.nh T.nl T.nh Z k1 k2];rfl
 rw [e]
 exact⟨Z,k1,k2⟩
theorem mul_gr {xl xh ul uh yl yh:Nat} (X:In xl xh ul uh) (h3:yl<18446744073709551616) (h4:yh<18446744073709551616) (T:Some2 yl yh):Gr (mulP xl xh yl yh) (mulP ul uh yl yh):=by
 obtain⟨A,k1,k2⟩:=mul_keys X.a1 X.a2 h3 h4 X.S T
 obtain⟨A',k3,k4⟩:=mul_keys X.b1 X.b2 h3 h4 X.T T
 refine gr_some A A' ?_ ?_
 ·rw [k1,k3]
  exact low_grows X.b1 X.b2 X.a1 X.a2 h3 h4 X.T.nl X.T.nh X.S.nl X.S.nh T.nl T.nh X.kl X.S.le X.kh
 ·rw [k2,k4]
  exact top_grows X.b1 X.b2 X.a1 X.a2 h3 h4 X.T.nl X.T.nh X.S.nl X.S.nh T.nl T.nh X.kl X.S.le X.kh
end Go.Proofs.YtopfabemfbdccaaGreat
