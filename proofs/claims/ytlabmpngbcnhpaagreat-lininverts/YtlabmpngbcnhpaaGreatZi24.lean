/- Slices of floats as they lie in memory; what allFinite answers. Rows of floats as they lie in memory; what floatsMayBe and the reference's finite answer. What the reference's Floats answers. The unit matrix: lin.One. Rows that the reference appends: One. Floats as intervals: the reference's Points. Floats as intervals: lin.Points. The reference's floats as numbers, row by row. Middles and widths: the program's and the reference's are the same; IvalSizes' walk. The greater the intervals are, the greater are sums and products: plain facts, end by end. -/
import Derived.Test.YtlabmpngbcnhpaaGreatZi22
import Derived.Test.YtlabmpngbcnhpaaGreatZi03
import Derived.Test.YtlabmpngbcnhpaaGreatZi23
import Derived.Test.YtlabmpngbcnhpaaGreatZi18
import Derived.Test.YtlabmpngbcnhpaaGreatZi19
namespace Go.Proofs.YtlabmpngbcnhpaaGreat
open Go.ChangeShapes Go.WideShapes Go.ChangeAt Go.RowKit
def Fls (w:World) (A:Option Addr) (n:Nat) (X:Nat→Nat):Prop :=
 ∀i,i<n→∃b o,A=some ⟨b,o,none⟩∧b<w.heap.size∧w.cell? ⟨b,o+i,none⟩=some (.float .f64 (X i))∧X i<18446744073709551616
theorem Fls.keep {w w2:World} {A:Option Addr} {n:Nat} {X:Nat→Nat} (h:Fls w A n X) (hb:Below w.heap.size w w2):Fls w2 A n X:=fun i hi=>by
 obtain⟨b,o,e,l,c0,r⟩:=h i hi
 exact⟨b,o,e,Nat.lt_of_lt_of_le l hb.size,keepsC hb c0 l,r⟩
def finsB (n:Nat) (X:Nat→Nat):Bool:=(List.range n).all (fun i=>finB (X i))
theorem split_fin (x:Nat) (hx:x<18446744073709551616) (w:World) :
   Calls Tryz.prog 79 #[.float .f64 x] w fun r w'=>(∃(g:Bool) (m:Nat) (e:Int),r=.returned (.tuple #[.agg #[.bool g,.int .u64 (m:Int),.int .i64 e],.bool (finB x)]))∧Below w.heap.size w w':=by
 cases hf:finB x
 · exact (split_not x hx hf w).mono fun r w' ⟨h,b⟩=>⟨⟨false,0,0,h⟩,b⟩
 · exact (split_w x hx hf w).mono fun r w' ⟨h,b⟩=>⟨⟨_,_,_,h⟩,b⟩
set_option maxHeartbeats 1000000 in
theorem allFin_w (A:Option Addr) (n C:Nat) (X:Nat→Nat) (hC:n≤9223372036854775807) (w:World) (V:Fls w A n X) :
   Calls Tryz.prog 72 #[.slice A n C] w fun e w'=>e=.returned (.bool (finsB n X))∧Below w.heap.size w w':=by
 have cs:=fun (i:Nat) (h1:X i<18446744073709551616) w=>split_fin (X i) h1 w
 go_enter Tryz.func72,Tryz.ntmps72
 go_wp2_with fail
 go_loopg [9] n (fun G s7 wx=>Below w.heap.size w wx∧∃i:Nat,i+G=n∧s7=.int .i64 (i:Int)∧Hid (∀j,j<i→finB (X j)=true))
 case atStart=>exact⟨Below.refl _ _,0,by omega,rfl,fun j hj=>absurd hj (by omega)⟩
 case round =>
   obtain⟨HB,i,hi,rfl,hall⟩:=hrel
   by_cases ci:i=n
   · subst ci
     have e:finsB i X=true:=all_upto.2 hall
     go_wp2_with fail
     go_ret
     exact⟨(congrArg (fun q=>Ending.returned (Value.bool q)) e).symm,HB⟩
   · have hlt:(i:Int)<(n:Int):=by omega
     obtain⟨b,o,hA,hb,x0,l0⟩:=(V.keep HB) i (by omega)
     have c:=cs i l0
     have hcase:finB (X i)=true∨finB (X i)=false:=by cases finB (X i) <;> simp
     rcases hcase with hq | hq
     · rw [hq] at c
       subst hA
       go_wp2_with (go_at_call 79;refine (c _).mono ?_;rintro _ w1 ⟨⟨g,m,ex,rfl⟩,hb1⟩;replace HB:=later HB hb1)
       go_roundg (n-i-1)
       case measure=>omega
       case rel=>exact⟨below_alloc HB _,i+1,by omega,by go_num,fun j hj=>by rcases Nat.lt_or_ge j i with h | h;exact hall j h;rw [show j=i by omega];exact hq⟩
     · rw [hq] at c
       have e:finsB n X=false:=all_not (i:=i) (by omega) hq
       subst hA
       go_wp2_with (go_at_call 79;refine (c _).mono ?_;rintro _ w1 ⟨⟨g,m,ex,rfl⟩,hb1⟩;replace HB:=later HB hb1)
       go_ret
       exact⟨(congrArg (fun q=>Ending.returned (Value.bool q)) e).symm,below_alloc HB _⟩
theorem fin_le (x:Nat) (hx:x<18446744073709551616):finB x=(leB 18442240474082181119 x&&leB x 9218868437227405311):=by
 have k1:key 18442240474082181119=-9218868437227405311:=by decide
 have k2:key 9218868437227405311=9218868437227405311:=by decide
 have n1:nanB 18442240474082181119=false:=by decide
 have n2:nanB 9218868437227405311=false:=by decide
 unfold leB
 rw [k1,k2,n1,n2,Bool.eq_iff_iff]
 unfold finB nanB key
 simp only [Bool.and_eq_true,Bool.not_eq_true',decide_eq_true_eq,decide_eq_false_iff_not,Bool.not_false,true_and,and_true]
 by_cases b:x<9223372036854775808
 · rw [if_pos b];omega
 · rw [if_neg b];omega
theorem rfin_w (x:Nat) (hx:x<18446744073709551616) (w:World):Calls Tryz.prog 60 #[.float .f64 x] w fun e w'=>e=.returned (.bool (finB x))∧w=w':=by
 have h1:=o_ge (a:=x) (b:=18442240474082181119) hx (by omega)
 have h2:=o_le (a:=x) (b:=9218868437227405311) hx (by omega)
 rw [fin_le x hx]
 generalize leB 18442240474082181119 x=p at *
 generalize leB x 9218868437227405311=q at *
 cases p <;> cases q
 all_goals
   go_enter Tryz.func60,Tryz.ntmps60
   go_wp2_with fail
   go_ret
   exact⟨rfl,rfl⟩
def Rfs (w:World) (A:Option Addr) (N:Nat) (RA:Nat→Option Addr) (RL RC:Nat→Nat) (X:Nat→Nat→Nat):Prop :=
 ∀r,r<N→∃b o,A=some ⟨b,o,none⟩∧b<w.heap.size∧w.cell? ⟨b,o+r,none⟩=some (.slice (RA r) (RL r) (RC r))∧RL r≤9223372036854775807∧Fls w (RA r) (RL r) (X r)
theorem Rfs.keep {w w2:World} {A:Option Addr} {N:Nat} {RA:Nat→Option Addr} {RL RC:Nat→Nat} {X:Nat→Nat→Nat} (h:Rfs w A N RA RL RC X) (hb:Below w.heap.size w w2):Rfs w2 A N RA RL RC X:=fun r hr=>by
 obtain⟨b,o,e,l,c0,c1,i⟩:=h r hr
 exact⟨b,o,e,Nat.lt_of_lt_of_le l hb.size,keepsC hb c0 l,c1,i.keep hb⟩
def rowFB (RL:Nat→Nat) (X:Nat→Nat→Nat) (r:Nat):Bool:=decide (RL r=RL 0)&&dimB (RL r)&&finsB (RL r) (X r)
def fltB (N:Nat) (RL:Nat→Nat) (X:Nat→Nat→Nat):Bool:=(List.range N).all (rowFB RL X)&&dimB N
set_option maxHeartbeats 4000000 in
theorem floatsMay_w (A:Option Addr) (N C:Nat) (RA:Nat→Option Addr) (RL RC:Nat→Nat) (X:Nat→Nat→Nat) (hN:N≤9223372036854775807) (w:World) (V:Rfs w A N RA RL RC X) :
   Calls Tryz.prog 37 #[.slice A N C] w fun e w'=>e=.returned (.bool (fltB N RL X))∧Below w.heap.size w w':=by
 go_enter Tryz.func37,Tryz.ntmps37
 go_wp2_with fail
 go_loopg [7] N (fun G s7 wx=>Below w.heap.size w wx∧∃r:Nat,r+G=N∧s7=.int .i64 (r:Int)∧Hid (∀j,j<r→rowFB RL X j=true))
 case atStart=>exact⟨Below.refl _ _,0,by omega,rfl,fun j hj=>absurd hj (by omega)⟩
 case round =>
   obtain⟨HB,r,hr,rfl,hall⟩:=hrel
   by_cases cr:r=N
   · subst cr
     have e:fltB r RL X=dimB r:=by unfold fltB;rw [all_upto.2 hall,Bool.true_and]
     go_wp2_with (go_at_call 51;refine (isDim_w r hN _).mono ?_;rintro _ _ ⟨rfl,rfl⟩)
     go_ret
     exact⟨(congrArg (fun q=>Ending.returned (Value.bool q)) e).symm,HB⟩
   · have hlt:(r:Int)<(N:Int):=by omega
     have hlt0:(0:Int)<(N:Int):=by omega
     obtain⟨b,o,hA,hb,x0,l0,I⟩:=(V.keep HB) r (by omega)
     obtain⟨b',o',hA',hb',x1,l1, -⟩:=(V.keep HB) 0 (by omega)
     have hE:b'=b∧o'=o:=by
       rw [hA] at hA'
       simp only [Option.some.injEq,Addr.mk.injEq] at hA'
       exact⟨hA'.1.symm,hA'.2.1.symm⟩
     obtain⟨rfl,rfl⟩:=hE
     rw [Nat.add_zero] at x1
     clear hA' hb'
     have c:=fun w2 (hw:Below wr.heap.size wr w2)=>allFin_w (RA r) (RL r) (RC r) (X r) l0 w2 (I.keep hw)
     replace c:=c wr (Below.refl _ _)
     have d:=isDim_w (RL r) l0
     have ne:((RL r:Int) != (RL 0:Int))=!decide (RL r=RL 0):=by
       by_cases q:RL r=RL 0
       · simp [q]
       · rw [decide_eq_false q];simp;omega
     have hp:Hid (rowFB RL X r=(decide (RL r=RL 0)&&dimB (RL r)&&finsB (RL r) (X r))):=rfl
     have hno:Hid (rowFB RL X r=false→fltB N RL X=false):=fun h=>by unfold fltB;rw [all_not (i:=r) (by omega) h,Bool.false_and]
     generalize decide (RL r=RL 0)=p at *
     generalize dimB (RL r)=q at *
     generalize finsB (RL r) (X r)=u at *
     subst hA
     cases p <;> cases q <;> cases u
     all_goals
       go_wp2_with (first
         | (go_at_call 51;with_reducible refine (d _).mono ?_;rintro _ _ ⟨rfl,rfl⟩)
         | (go_at_call 72;with_reducible refine c.mono ?_;rintro _ w1 ⟨rfl,hb1⟩;have y1:=keepsC hb1 x1 hb;replace HB:=later HB hb1))
       first
         | (go_ret
            exact⟨(congrArg (fun q=>Ending.returned (Value.bool q)) (hno (by rw [show rowFB RL X r=_ from hp];rfl))).symm,HB⟩)
         | (go_roundg (N-r-1)
            case measure=>omega
            case rel=>exact⟨HB,r+1,by omega,by go_num,fun j hj=>by rcases Nat.lt_or_ge j r with h | h;exact hall j h;rw [show j=r by omega,show rowFB RL X r=_ from hp];rfl⟩)
theorem rowFB_no {RL:Nat→Nat} {X:Nat→Nat→Nat} {r:Nat} (h:RL r≠RL 0∨RL r=0∨24<RL r∨∃i,i<RL r∧finB (X r i)=false):rowFB RL X r=false:=by
 unfold rowFB
 rcases h with h | h | h | ⟨i,hi,h⟩
 · rw [decide_eq_false h];rfl
 · rw [dim_no (.inl h),Bool.and_false];rfl
 · rw [dim_no (.inr h),Bool.and_false];rfl
 · rw [show finsB (RL r) (X r)=false from all_not hi h,Bool.and_false]
set_option maxHeartbeats 4000000 in
theorem rfloats_w (A:Option Addr) (N C:Nat) (RA:Nat→Option Addr) (RL RC:Nat→Nat) (X:Nat→Nat→Nat) (hN:N≤9223372036854775807) (w:World) (V:Rfs w A N RA RL RC X) :
   Calls Tryz.prog 25 #[.slice A N C] w fun e w'=>e=.returned (.bool (fltB N RL X))∧Below w.heap.size w w':=by
 go_enter Tryz.func25,Tryz.ntmps25
 go_wp2_with fail
 go_loopg [9] N (fun G s7 wx=>Below w.heap.size w wx∧∃r:Nat,r+G=N∧s7=.int .i64 (r:Int)∧Hid (∀j,j<r→rowFB RL X j=true))
 case atStart=>exact⟨Below.refl _ _,0,by omega,rfl,fun j hj=>absurd hj (by omega)⟩
 case round =>
   obtain⟨HB,r,hr,rfl,hall⟩:=hrel
   by_cases cr:r=N
   · subst cr
     have e:Hid (fltB r RL X=dimB r):=show fltB r RL X=dimB r by unfold fltB;rw [all_upto.2 hall,Bool.true_and]
     by_cases c1:1≤r
     · by_cases c2:r≤24
       · have h1:(1:Int)≤(r:Int):=by omega
         have h2:(r:Int)≤24:=by omega
         go_wp2_with fail
         go_ret
         exact⟨(congrArg (fun q=>Ending.returned (Value.bool q)) ((show fltB r RL X=dimB r from e).trans (dim_yes c1 c2))).symm,HB⟩
       · have h1:(1:Int)≤(r:Int):=by omega
         have h2:¬(r:Int)≤24:=by omega
         go_wp2_with fail
         go_ret
         exact⟨(congrArg (fun q=>Ending.returned (Value.bool q)) ((show fltB r RL X=dimB r from e).trans (dim_no (show r=0∨24<r by omega)))).symm,HB⟩
     · have h1:¬(1:Int)≤(r:Int):=by omega
       go_wp2_with fail
       go_ret
       exact⟨(congrArg (fun q=>Ending.returned (Value.bool q)) ((show fltB r RL X=dimB r from e).trans (dim_no (show r=0∨24<r by omega)))).symm,HB⟩
   · have hlt:(r:Int)<(N:Int):=by omega
     have hlt0:(0:Int)<(N:Int):=by omega
     obtain⟨b,o,hA,hb,x0,l0,I⟩:=(V.keep HB) r (by omega)
     obtain⟨b',o',hA',hb',x1,l1, -⟩:=(V.keep HB) 0 (by omega)
     have hE:b'=b∧o'=o:=by
       rw [hA] at hA'
       simp only [Option.some.injEq,Addr.mk.injEq] at hA'
       exact⟨hA'.1.symm,hA'.2.1.symm⟩
     obtain⟨rfl,rfl⟩:=hE
     rw [Nat.add_zero] at x1
     clear hA' hb'
     have hno:Hid (rowFB RL X r=false→fltB N RL X=false):=fun h=>by unfold fltB;rw [all_not (i:=r) (by omega) h,Bool.false_and]
     subst hA
     generalize RA r=P at *
     by_cases g1:1≤RL r
     · by_cases g2:RL r≤24
       · by_cases g3:RL r=RL 0
         · have e1:¬(RL r:Int)<1:=by omega
           have e2:¬(24:Int)<(RL r:Int):=by omega
           have e3:((RL r:Int) != (RL 0:Int))=false:=by simp [g3]
           have G3:Hid (RL r=RL 0):=g3
           clear g3
           go_wp2_with fail
           go_loopg [32] (RL r) (fun G s9 wy=>wy=wr∧∃i:Nat,i+G=RL r∧s9=.int .i64 (i:Int)∧Hid (∀j,j<i→finB (X r j)=true))
           case atStart=>exact⟨rfl,0,by omega,rfl,fun j hj=>absurd hj (by omega)⟩
           case round =>
             obtain⟨rfl,i,hi,rfl,hin⟩:=hrel
             by_cases ci:i=RL r
             · have ci':¬(i:Int)<(RL r:Int):=by omega
               go_wp2_with fail
               go_roundg (N-r-1)
               case measure=>omega
               case rel =>
                 refine⟨HB,r+1,by omega,by go_num,fun j hj=>?_⟩
                 rcases Nat.lt_or_ge j r with h | h
                 · exact hall j h
                 · rw [show j=r by omega]
                   unfold rowFB
                   rw [decide_eq_true (show RL r=RL 0 from G3),dim_yes g1 g2,show finsB (RL r) (X r)=true from all_upto.2 fun j hj=>hin j (by omega)]
                   rfl
             · have hlti:(i:Int)<(RL r:Int):=by omega
               obtain⟨b2,o2,hA2,hb2,y0,m0⟩:=I i (by omega)
               have c:=rfin_w (X r i) m0
               subst hA2
               have hcase:finB (X r i)=true∨finB (X r i)=false:=by cases finB (X r i) <;> simp
               rcases hcase with hq | hq
               · rw [hq] at c
                 go_wp2_with (go_at_call 60;refine (c _).mono ?_;rintro _ _ ⟨rfl,rfl⟩)
                 go_roundg (RL r-i-1)
                 case measure=>omega
                 case rel=>exact⟨rfl,i+1,by omega,by go_num,fun j hj=>by rcases Nat.lt_or_ge j i with h | h;exact hin j h;rw [show j=i by omega];exact hq⟩
               · rw [hq] at c
                 go_wp2_with (go_at_call 60;refine (c _).mono ?_;rintro _ _ ⟨rfl,rfl⟩)
                 go_ret
                 exact⟨(congrArg (fun q=>Ending.returned (Value.bool q)) (hno (rowFB_no (.inr (.inr (.inr ⟨i,by omega,hq⟩)))))).symm,HB⟩
         · have e1:¬(RL r:Int)<1:=by omega
           have e2:¬(24:Int)<(RL r:Int):=by omega
           have e3:((RL r:Int) != (RL 0:Int))=true:=by simp;omega
           go_wp2_with fail
           go_ret
           exact⟨(congrArg (fun q=>Ending.returned (Value.bool q)) (hno (rowFB_no (.inl g3)))).symm,HB⟩
       · have e1:¬(RL r:Int)<1:=by omega
         have e2:(24:Int)<(RL r:Int):=by omega
         go_wp2_with fail
         go_ret
         exact⟨(congrArg (fun q=>Ending.returned (Value.bool q)) (hno (rowFB_no (.inr (.inr (.inl (by omega))))))).symm,HB⟩
     · have e1:(RL r:Int)<1:=by omega
       go_wp2_with fail
       go_ret
       exact⟨(congrArg (fun q=>Ending.returned (Value.bool q)) (hno (rowFB_no (.inr (.inl (by omega)))))).symm,HB⟩
def oneP (r c:Nat):Nat×Nat:=if r=c then makeP 4607182418800017408 4607182418800017408 else (0,0)
set_option maxHeartbeats 4000000 in
theorem One_good (n:Nat) (h1:1≤n) (h2:n≤24) (w:World):Calls Tryz.prog 18 #[.int .i64 (n:Int)] w fun e w'=>∃g h,e=.returned (.slice (some ⟨g,0,none⟩) n n)∧Grd w' g n n h oneP∧Below w.heap.size w w':=by
 have c:∀w,Calls Tryz.prog 51 #[.int .i64 (n:Int)] w fun e w'=>e=.returned (.bool true)∧w=w':=fun w=>by
   rw [←dim_yes h1 h2];exact isDim_w n (by omega) w
 have cg:=fun w=>grid_w n n h2 h2 w
 have cp:=fun w=>point_w 4607182418800017408 (by omega) w
 have hP:Hid (oneP=fun r c=>if r=c then makeP 4607182418800017408 4607182418800017408 else (0,0)):=rfl
 generalize makeP 4607182418800017408 4607182418800017408=P at *
 go_enter Tryz.func18,Tryz.ntmps18
 go_wp2_with (first
   | (go_at_call 51;refine (c _).mono ?_;rintro _ _ ⟨rfl,rfl⟩)
   | (go_at_call 41;refine (cg _).mono ?_;rintro _ w1 ⟨g,h,rfl,G0,hg,hh,HB⟩))
 clear c cg
 go_loopg [12] n (fun G s wx=>Below w.heap.size w wx∧∃j:Nat,j+G=n∧s=.int .i64 (j:Int)∧Grd wx g n n h (fun r c=>if r=c∧r<j then P else (0,0)))
 case atStart=>exact⟨HB,0,by omega,rfl,G0.congr fun r _ c _=>by simp⟩
 case round =>
   clear HB G0
   obtain⟨HB,j,hj,rfl,G0⟩:=hrel
   by_cases cj:j=n
   · subst cj
     go_wp2_with fail
     go_ret
     exact⟨g,h,rfl,by rw [show oneP=_ from hP];exact G0.congr fun r hr c hc=>by simp [hr],HB⟩
   · have hltj:(j:Int)<(n:Int):=by omega
     obtain⟨g0, -⟩:=G0.out.2 j (by omega)
     have gl:=G0.out.1
     go_upto_region 7 with fail
     have kg0:=fun n:Behind wr=>n.cell g0 gl
     refine tail_behind 6 (by kernel_rfl) (by kernel_rfl) ?_
     simp only [List.take_succ_cons,List.take_zero,List.drop_succ_cons,List.drop_zero]
     repeat (go_big_quiet_step (first
       | (go_at_call 42;with_reducible refine Behind.call (cp _))))
     refine wpQuiet_nil ?_
     rintro _ ⟨q,rfl⟩
     obtain⟨W,hb1⟩:=q
     dsimp only
     clear kg0 g0 gl cp
     replace G0:=G0.keep hb1
     replace HB:=later HB hb1
     clear hb1
     obtain⟨i0,i1,f0,f1⟩:=id ((G0.row j (by omega)).2 j (by omega))
     go_wp2_with fail
     go_roundg (n-j-1)
     case measure=>omega
     case rel =>
       have hhi:=hh j (by omega)
       refine⟨?_,j+1,by omega,by go_num,(G0.set j j _ _ (by omega) (by omega)).congr fun r hr c hc=>?_⟩
       · repeat' (first | (with_reducible exact HB) | (with_reducible refine Below.setCell ?_ ?_ _) | go_size | omega)
       · by_cases e:r=j∧c=j
         · obtain⟨rfl,rfl⟩:=e
           simp
         · rw [if_neg e]
           by_cases q:r=c∧r<j
           · rw [if_pos q,if_pos (by omega)]
           · rw [if_neg q,if_neg (by omega)]
def rowZ (Z:Nat→Nat→Nat×Nat) (i n:Nat):List (Nat×Nat):=(List.range n).map fun c=>Z i c
theorem rowZ_step (Z:Nat→Nat→Nat×Nat) (i n:Nat):rowZ Z i (n+1)=rowZ Z i n++[((Z i n).1,(Z i n).2)]:=by
 unfold rowZ;rw [List.range_succ,List.map_append];rfl
theorem rowZ_len (Z:Nat→Nat→Nat×Nat) (i n:Nat):(rowZ Z i n).length=n:=by simp [rowZ]
theorem rowZ_at (Z:Nat→Nat→Nat×Nat) (i n t:Nat) (ht:t<n):(rowZ Z i n).getD t (0,0)=Z i t:=by simp [rowZ,List.getD,ht]
def RowG (B:Nat) (w:World) (Z:Nat→Nat→Nat×Nat) (L i:Nat) (vs:List Value):Prop:=vs.length=i∧∀r,r<i→∃A C,vs[r]?=some (.slice A L C)∧OwnI B w (.slice A L C) (rowZ Z r L)
theorem RowG.keep {B:Nat} {w w2:World} {Z:Nat→Nat→Nat×Nat} {L i:Nat} {vs:List Value} (h:RowG B w Z L i vs) (hb:∀u xs,OwnI B w u xs→OwnI B w2 u xs):RowG B w2 Z L i vs :=
 ⟨h.1,fun r hr=>by obtain⟨A,C,a,b⟩:=h.2 r hr;exact⟨A,C,a,hb _ _ b⟩⟩
theorem RowG.push {B:Nat} {w:World} {Z:Nat→Nat→Nat×Nat} {L i:Nat} {vs:List Value} (h:RowG B w Z L i vs) {A:Option Addr} {C:Nat} (k:OwnI B w (.slice A L C) (rowZ Z i L)):RowG B w Z L (i+1) (vs++[.slice A L C]):=by
 refine⟨by rw [List.length_append,h.1];rfl,fun r hr=>?_⟩
 by_cases e:r=i
 · subst e
   refine⟨A,C, ?_,k⟩
   rw [←h.1]
   simp
 · obtain⟨A',C',a,b⟩:=h.2 r (by omega)
   refine⟨A',C', ?_,b⟩
   rw [List.getElem?_append_left (by rw [h.1];omega)]
   exact a
theorem RowG.rws {B:Nat} {w:World} {Z:Nat→Nat→Nat×Nat} {L N:Nat} {v:Value} {vs:List Value} (h:RowG B w Z L N vs) (k:OwnR B w v vs) (hL:L≤9223372036854775807) (hw:∀r,r<N→∀c,c<L→(Z r c).1<18446744073709551616∧(Z r c).2<18446744073709551616) :
   ∃A C RA RC,v=.slice A N C∧Rws w A N RA (fun _=>L) RC Z:=by
 obtain⟨f,hf⟩:=Classical.axiomOfChoice (fun r=>(show ∃p:Option Addr×Nat,r<N→vs[r]?=some (.slice p.1 L p.2)∧OwnI B w (.slice p.1 L p.2) (rowZ Z r L) by
   by_cases hr:r<N
   · obtain⟨A,C,a,b⟩:=h.2 r hr
     exact⟨(A,C),fun _=>⟨a,b⟩⟩
   · exact⟨(none,0),fun q=>absurd q hr⟩))
 have k':w.ownsRow B 29 1 v vs.length vs:=k
 rcases k'.2 with ⟨rfl,hn⟩ | ⟨g,cap,cur,rfl, -⟩
 · have e:N=0:=by rw [←h.1];exact hn
   subst e
   exact⟨none,0,fun _=>none,fun _=>0,rfl,fun r hr=>absurd hr (by omega)⟩
 · rw [h.1] at k' ⊢
   have hl:=(World.ownsRow.lt k' g rfl).2
   refine⟨_,cap,fun r=>(f r).1,fun r=>(f r).2,rfl,fun r hr=>?_⟩
   obtain⟨a,b⟩:=hf r hr
   obtain⟨A',C',e,J⟩:=ownI_ivs b (fun p hp=>by
     simp only [rowZ,List.mem_map,List.mem_range] at hp
     obtain⟨t,ht,rfl⟩:=hp
     exact hw r hr t ht)
   rw [rowZ_len] at e J
   have e1:(f r).1=A':=by injection e
   refine⟨g,0,rfl,hl, ?_,hL, ?_⟩
   · rw [Nat.zero_add,World.ownsRow.cellAt k' r (by omega)]
     exact a
   · show Ivs w (f r).1 L (Z r)
     rw [e1]
     intro i hi
     rw [←rowZ_at Z r L i hi]
     exact J i hi
def ptsP (X:Nat→Nat→Nat) (r c:Nat):Nat×Nat:=makeP (X r c) (X r c)
theorem fltB_parts {N:Nat} {RL:Nat→Nat} {X:Nat→Nat→Nat} (h:fltB N RL X=true):1≤N∧N≤24∧(∀r,r<N→RL r=RL 0)∧1≤RL 0∧RL 0≤24:=by
 unfold fltB at h
 rw [Bool.and_eq_true] at h
 obtain⟨a,b⟩:=h
 have b':1≤N∧N≤24:=of_decide_eq_true b
 have q:=all_upto.1 a
 have z:=q 0 (by omega)
 unfold rowFB at z
 simp only [Bool.and_eq_true] at z
 have z':1≤RL 0∧RL 0≤24:=of_decide_eq_true z.1.2
 refine⟨b'.1,b'.2,fun r hr=>?_,z'.1,z'.2⟩
 have y:=q r hr
 unfold rowFB at y
 simp only [Bool.and_eq_true] at y
 exact of_decide_eq_true y.1.1
set_option maxHeartbeats 8000000 in
theorem rPoints_good (A:Option Addr) (N C:Nat) (RA:Nat→Option Addr) (RL RC:Nat→Nat) (X:Nat→Nat→Nat) (hN:N≤9223372036854775807) (hf:fltB N RL X=true) (w:World) (V:Rfs w A N RA RL RC X) :
   Calls Tryz.prog 9 #[.slice A N C] w fun e w'=>∃v vs,e=.returned v∧OwnR w.heap.size w' v vs∧RowG w.heap.size w' (ptsP X) (RL 0) N vs∧Below w.heap.size w w':=by
 have hB0:Below w.heap.size w (w.alloc (.cells #[] 29)):=below_alloc (Below.refl _ _) _
 have E:=ownR_empty w
 have c:=rfloats_w A N C RA RL RC X hN _ (V.keep hB0)
 rw [hf] at c
 obtain⟨n1,n2,hRL,m1,m2⟩:=fltB_parts hf
 have HR:Hid (∀r,r<N→RL r=RL 0):=hRL
 clear hf hRL
 obtain⟨L,hL⟩:∃L,L=RL 0:=⟨_,rfl⟩
 have HR':Hid (∀r,r<N→RL r=L):=fun r hr=>(HR r hr).trans hL.symm
 rw [←hL] at m1 m2 ⊢
 clear hL HR
 go_enter Tryz.func9,Tryz.ntmps9
 go_wp2_with (go_at_call 25;refine c.mono ?_;rintro _ w1 ⟨rfl,hb1⟩;replace hB0:=later hB0 hb1;replace E:=E.keep hb1)
 clear c
 go_loopg [3,16] N (fun G s3 s16 wx=>Below w.heap.size w wx∧w.heap.size≤wx.heap.size∧∃(i:Nat) (vs:List Value),i+G=N∧s16=.int .i64 (i:Int)∧OwnR w.heap.size wx s3 vs∧RowG w.heap.size wx (ptsP X) L i vs)
 case atStart=>exact⟨hB0,hB0.size,0,[],by omega,rfl,E,rfl,fun r hr=>absurd hr (by omega)⟩
 case round =>
   clear E hB0
   obtain⟨HB,hSz,i,vs,hi,rfl,hown,hrow⟩:=hrel
   by_cases ci:i=N
   · subst ci
     go_wp2_with fail
     go_ret
     exact⟨_,vs,rfl,hown,hrow,HB⟩
   · have hlti:(i:Int)<(N:Int):=by omega
     obtain⟨b',o',hA,hb',y0,l0,I⟩:=(V.keep HB) i (by omega)
     rw [HR' i (by omega)] at y0 I
     clear l0
     have E1:=ownI_empty wr
     have hB1:Below wr.heap.size wr (wr.alloc (.cells #[] 36)):=below_alloc (Below.refl _ _) _
     subst hA
     generalize RA i=P at *
     obtain⟨w1,rfl⟩:∃w1,w1=wr:=⟨_,rfl⟩
     go_wp2_with fail
     go_loopg [6,23] L (fun G s6 s23 wy=>Below w1.heap.size w1 wy∧w1.heap.size≤wy.heap.size∧∃j:Nat,j+G=L∧s23=.int .i64 (j:Int)∧OwnI w1.heap.size wy s6 (rowZ (ptsP X) i j))
     case atStart=>exact⟨hB1,hB1.size,0,by omega,rfl,E1⟩
     case round =>
       clear E1 hB1
       obtain⟨HC,hSy,j,hj,rfl,hownI⟩:=hrel
       by_cases cj:j=L
       · subst cj
         obtain⟨A',C',hv⟩:=hownI.form
         rw [rowZ_len] at hv
         subst hv
         have hlen:vs.length≤2000000:=by rw [hrow.1];omega
         have hownR:=hown.keep HC
         have hrow1:=hrow.keep fun u xs q=>q.keep HC
         have HB1:=later HB HC
         have hS1:=HB1.size
         go_wp2_with (at_builtin;refine wpList_pushR (by rfl) _ _ (by rfl) _ vs A' j C' (by rfl) (by rfl) hownR hlen hS1 HB1 ?_;intro v' w' hown' hB' hS' hkeep)
         go_roundg (N-i-1)
         case measure=>omega
         case rel=>exact⟨hB',hS',i+1,_,by omega,by go_num,hown',(hrow1.keep hkeep).push (hkeep _ _ (hownI.base hSz))⟩
       · have hltj:(j:Int)<(L:Int):=by omega
         have hlen:(rowZ (ptsP X) i j).length≤2000000:=by rw [rowZ_len];omega
         obtain⟨b2,o2,hA2,hb2,z0,k0⟩:=(I.keep HC) j (by omega)
         have cm:∀w,Calls Tryz.prog 34 #[.float .f64 (X i j),.float .f64 (X i j)] w fun e w'=>e=.returned (.agg #[.float .f64 (ptsP X i j).1,.float .f64 (ptsP X i j).2])∧Below w.heap.size w w':=fun w=>rmake_w _ _ k0 k0 w
         subst hA2
         go_wp2_with (first
           | (go_at_call 34;refine (cm _).mono ?_;rintro _ w3 ⟨rfl,hb1⟩;replace hownI:=OwnI.keep hownI hb1;replace HC:=later HC hb1;have hS1:=HC.size)
           | (at_builtin;refine wpList_pushI (by rfl) _ _ (by rfl) _ (rowZ (ptsP X) i j) (ptsP X i j).1 (ptsP X i j).2 (by rfl) (by rfl) hownI hlen hS1 HC ?_;intro v' w' hown' hB' hS'))
         go_roundg (L-j-1)
         case measure=>omega
         case rel=>exact⟨hB',hS',j+1,by omega,by go_num,by rw [rowZ_step];exact hown'⟩
set_option maxHeartbeats 2000000 in
theorem Points_bad (A:Option Addr) (N C:Nat) (RA:Nat→Option Addr) (RL RC:Nat→Nat) (X:Nat→Nat→Nat) (hN:N≤9223372036854775807) (hf:fltB N RL X=false) (w:World) (V:Rfs w A N RA RL RC X) :
   Calls Tryz.prog 14 #[.slice A N C] w fun e w'=>e=.returned (.slice none 0 0)∧Below w.heap.size w w':=by
 have c:=floatsMay_w A N C RA RL RC X hN w V
 rw [hf] at c
 go_enter Tryz.func14,Tryz.ntmps14
 go_wp2_with (go_at_call 37;refine c.mono ?_;rintro _ w1 ⟨rfl,hb1⟩)
 go_ret
 exact⟨rfl,hb1⟩
set_option maxHeartbeats 8000000 in
theorem Points_new (A:Option Addr) (N C:Nat) (RA:Nat→Option Addr) (RL RC:Nat→Nat) (X:Nat→Nat→Nat) (hN:N≤9223372036854775807) (hf:fltB N RL X=true) (w:World) (V:Rfs w A N RA RL RC X) :
   Calls Tryz.prog 14 #[.slice A N C] w fun e w'=>∃g h,e=.returned (.slice (some ⟨g,0,none⟩) N N)∧Grd w' g N (RL 0) h (ptsP X)∧(∀r,r<N→w.heap.size≤h r)∧Below w.heap.size w w':=by
 have c:=floatsMay_w A N C RA RL RC X hN w V
 rw [hf] at c
 obtain⟨n1,n2,hRL,m1,m2⟩:=fltB_parts hf
 obtain⟨b,o,hA,hb,x0, -, -⟩:=V 0 (by omega)
 rw [Nat.add_zero] at x0
 have HR:Hid (∀r,r<N→RL r=RL 0):=hRL
 clear hf hRL
 obtain⟨L,hL⟩:∃L,L=RL 0:=⟨_,rfl⟩
 have HR':Hid (∀r,r<N→RL r=L):=fun r hr=>(HR r hr).trans hL.symm
 rw [←hL] at m1 m2 x0 ⊢
 clear hL HR
 have cg:=fun w=>grid_w N L n2 m2 w
 have hlt0:(0:Int)<(N:Int):=by omega
 subst hA
 go_enter Tryz.func14,Tryz.ntmps14
 go_wp2_with (first
   | (go_at_call 37;refine c.mono ?_;rintro _ w1 ⟨rfl,HB⟩;replace x0:=keepsC HB x0 hb)
   | (go_at_call 41;refine (cg _).mono ?_;rintro _ w2 ⟨g,h,rfl,G0,hg,hh,hb1⟩))
 replace hg:w.heap.size≤g:=Nat.le_trans HB.size hg
 replace hh:∀r,r<N→w.heap.size≤h r:=fun r hr=>Nat.le_trans HB.size (hh r hr)
 replace HB:=later HB hb1
 clear c cg hb1 x0
 go_loopg [20] N (fun G s20 wx=>Below w.heap.size w wx∧∃i:Nat,i+G=N∧s20=.int .i64 (i:Int)∧Grd wx g N L h (fun r c=>if r<i then ptsP X r c else (0,0)))
 case atStart=>exact⟨HB,0,by omega,rfl,G0.congr fun r _ c _=>by simp⟩
 case round =>
   clear HB G0
   obtain⟨HB,i,hi,rfl,G0⟩:=hrel
   by_cases ci:i=N
   · subst ci
     go_wp2_with fail
     go_ret
     exact⟨g,h,rfl,G0.congr fun r hr c hc=>by simp [hr],hh,HB⟩
   · have hlti:(i:Int)<(N:Int):=by omega
     obtain⟨b',o',hA,hb',y0, -,I⟩:=V i (by omega)
     simp only [Option.some.injEq,Addr.mk.injEq,and_true] at hA
     obtain⟨rfl,rfl⟩:=hA
     rw [HR' i (by omega)] at y0 I
     replace y0:=keepsC HB y0 hb'
     generalize RA i=P at *
     go_wp2_with fail
     go_loopg [27] L (fun G s27 wy=>Below w.heap.size w wy∧∃j:Nat,j+G=L∧s27=.int .i64 (j:Int)∧Grd wy g N L h (fun r c=>if r<i∨(r=i∧c<j) then ptsP X r c else (0,0)))
     case atStart=>exact⟨HB,0,by omega,rfl,G0.congr fun r _ c _=>by simp⟩
     case round =>
       clear HB G0 y0
       obtain⟨HB,j,hj,rfl,G0⟩:=hrel
       by_cases cj:j=L
       · subst cj
         go_wp2_with fail
         go_roundg (N-i-1)
         case measure=>omega
         case rel =>
           refine⟨HB,i+1,by omega,by go_num,G0.congr fun r hr c hc=>?_⟩
           by_cases q:r<i+1
           · simp only [q,show r<i∨r=i∧c<j by omega,if_true]
           · simp only [q,show ¬(r<i∨r=i∧c<j) by omega,if_false]
       · have hltj:(j:Int)<(L:Int):=by omega
         obtain⟨b2,o2,hA2,hb2,z0,k0⟩:=(I.keep HB) j (by omega)
         have cp:∀w,Calls Tryz.prog 42 #[.float .f64 (X i j)] w fun e w'=>e=.returned (.agg #[.float .f64 (ptsP X i j).1,.float .f64 (ptsP X i j).2])∧Below w.heap.size w w':=fun w=>point_w _ k0 w
         obtain⟨g0, -⟩:=G0.out.2 i (by omega)
         have gl:=G0.out.1
         subst hA2
         go_upto_region 10 with fail
         have kg0:=fun n:Behind wr=>n.cell g0 gl
         refine tail_behind 7 (by kernel_rfl) (by kernel_rfl) ?_
         simp only [List.take_succ_cons,List.take_zero,List.drop_succ_cons,List.drop_zero]
         repeat (go_big_quiet_step (first
           | (go_at_call 42;with_reducible refine Behind.call (cp _))))
         refine wpQuiet_nil ?_
         rintro _ ⟨q,rfl⟩
         obtain⟨W,hb1⟩:=q
         dsimp only
         clear kg0 g0 gl cp z0
         replace G0:=G0.keep hb1
         replace HB:=later HB hb1
         clear hb1
         obtain⟨i0,i1,f0,f1⟩:=id ((G0.row i (by omega)).2 j (by omega))
         go_wp2_with fail
         go_roundg (L-j-1)
         case measure=>omega
         case rel =>
           have hhi:=hh i (by omega)
           refine⟨?_,j+1,by omega,by go_num,(G0.set i j _ _ (by omega) (by omega)).congr fun r hr c hc=>?_⟩
           · repeat' (first | (with_reducible exact HB) | (with_reducible refine Below.setCell ?_ ?_ _) | go_size | omega)
           · by_cases e:r=i∧c=j
             · obtain⟨rfl,rfl⟩:=e
               simp
             · rw [if_neg e]
               by_cases q:r<i∨r=i∧c<j
               · rw [if_pos q,if_pos (by omega)]
               · rw [if_neg q,if_neg (by omega)]
theorem Points_good (A:Option Addr) (N C:Nat) (RA:Nat→Option Addr) (RL RC:Nat→Nat) (X:Nat→Nat→Nat) (hN:N≤9223372036854775807) (hf:fltB N RL X=true) (w:World) (V:Rfs w A N RA RL RC X) :
   Calls Tryz.prog 14 #[.slice A N C] w fun e w'=>∃g h,e=.returned (.slice (some ⟨g,0,none⟩) N N)∧Grd w' g N (RL 0) h (ptsP X)∧Below w.heap.size w w' :=
 (Points_new A N C RA RL RC X hN hf w V).mono fun _ _ ⟨g,h,a,b,_,d⟩=>⟨g,h,a,b,d⟩
def NvD:Nv:=⟨false,none,0,0,0⟩
theorem NumZ.big {S T:Int} {K:Nat} {w w':World} {x:Value} {z:Int} (h:NumZ S T K w x z) (hb:∀x n,BigIs w x n→BigIs w' x n):NumZ S T K w' x z:=by
 obtain⟨g,v,m,e,h1,h2,h3⟩:=h
 exact⟨g,v,m,e,h1,hb _ _ h2,h3⟩
def NusV (w:World) (T:List Nv) (x:Nat→Int):Prop:=∀c,c<T.length→NumZ (-1074) 971 53 w (T.getD c NvD).val (x c)
theorem NusV.big {w w':World} {T:List Nv} {x:Nat→Int} (h:NusV w T x) (hb:∀x n,BigIs w x n→BigIs w' x n):NusV w' T x:=fun c hc=>(h c hc).big hb
theorem NusV.keep {w w':World} {T:List Nv} {x:Nat→Int} (h:NusV w T x) (hb:Below w.heap.size w w'):NusV w' T x:=fun c hc=>(h c hc).keep hb
theorem NusV.push {w:World} {T:List Nv} {x:Nat→Int} {z:Nv} (h:NusV w T x) (hz:NumZ (-1074) 971 53 w z.val (x T.length)):NusV w (T++[z]) x:=fun c hc=>by
 rw [List.length_append,List.length_cons,List.length_nil] at hc
 by_cases e:c<T.length
 · have:(T++[z]).getD c NvD=T.getD c NvD:=by simp [List.getD,List.getElem?_append_left e]
   rw [this];exact h c e
 · obtain rfl:c=T.length:=by omega
   have:(T++[z]).getD T.length NvD=z:=by simp [List.getD]
   rw [this];exact hz
def RowsV (B:Nat) (w:World) (n k:Nat) (x:Nat→Nat→Int) (vs:List Value):Prop:=vs.length=k∧∀r,r<k→∃A C T,vs[r]?=some (.slice A n C)∧T.length=n∧OwnQ B w (.slice A n C) T∧NusV w T (x r)
theorem RowsV.keep {B:Nat} {w w2:World} {n k:Nat} {x:Nat→Nat→Int} {vs:List Value} (h:RowsV B w n k x vs) (hb:Below w.heap.size w w2):RowsV B w2 n k x vs:=by
 refine⟨h.1,fun r hr=>?_⟩
 obtain⟨A,C,T,h1,h2,h3,h4⟩:=h.2 r hr
 exact⟨A,C,T,h1,h2,h3.keep hb,h4.keep hb⟩
theorem RowsV.push {B:Nat} {w w2:World} {n k:Nat} {x:Nat→Nat→Int} {vs:List Value} (h:RowsV B w n k x vs) (hw:∀u T,OwnQ B w u T→OwnQ B w2 u T) (hb:∀x n,BigIs w x n→BigIs w2 x n) {A:Option Addr} {C:Nat} {T:List Nv} (hl:T.length=n) (hn:OwnQ B w (.slice A n C) T) (hv:NusV w T (x k)):RowsV B w2 n (k+1) x (vs++[.slice A n C]):=by
 have e:=h.1
 refine⟨by rw [List.length_append,e];rfl,fun r hr=>?_⟩
 by_cases c:r<k
 · obtain⟨A',C',T',h1,h2,h3,h4⟩:=h.2 r c
   exact⟨A',C',T',by rw [List.getElem?_append_left (by omega)];exact h1,h2,hw _ _ h3,h4.big hb⟩
 · obtain rfl:r=k:=by omega
   exact⟨A,C,T,by rw [List.getElem?_append_right (by omega),e,Nat.sub_self];rfl,hl,hw _ _ hn,hv.big hb⟩
def NmAns (w:World) (n:Nat) (x:Nat→Nat→Int) (e:Ending) (w':World):Prop:=∃v vs,e=.returned v∧OwnS w.heap.size w' v vs∧RowsV w.heap.size w' n n x vs∧Below w.heap.size w w'
set_option maxHeartbeats 4000000 in
theorem nums_w (A:Option Addr) (n C:Nat) (RA:Nat→Option Addr) (RL RC:Nat→Nat) (X:Nat→Nat→Nat) (hn:n≤1000) (hl:∀r,r<n→RL r=n) (hf:∀r,r<n→∀c,c<n→finB (X r c)=true) (w:World) (H:Rfs w A n RA RL RC X) :
   Calls Tryz.prog 27 #[.slice A n C] w fun e w'=>NmAns w n (fun r c=>V (key (X r c))) e w':=by
 have HH:Hid _:=H
 have Ni:(n:Int)≤1000:=by omega
 have HB0:Below w.heap.size w (w.alloc (.cells #[] 83)):=by go_grown
 have own0:=ownS_empty w
 clear H
 go_enter Tryz.func27,Tryz.ntmps27
 go_upto_region 3 with fail
 generalize w.alloc (.cells #[] 83)=V0 at *
 go_loopg [3,12] n (fun G s3 s12 wx=>∃(k:Nat) (vs:List Value),s12=.int .i64 (k:Int)∧k≤n∧k+G=n∧OwnS w.heap.size wx s3 vs∧RowsV w.heap.size wx n k (fun r c=>V (key (X r c))) vs∧Below w.heap.size w wx)
 case atStart=>exact⟨0,[],rfl,by omega,by omega,own0,⟨rfl,fun r hr=>by omega⟩,HB0⟩
 case round =>
   clear own0 HB0
   obtain⟨k,vs,rfl,hk,hG,own,rows,HB⟩:=hrel
   obtain⟨A7,C7,rfl⟩:=own.form
   by_cases c:k<n
   · have ci:(k:Int)<(n:Int):=by omega
     obtain⟨b,o,eA,hb,cr, -,fls⟩:=HH.out k c
     subst eA
     rw [hl k c] at cr fls
     replace cr:=keepsC HB cr hb
     replace fls:=fls.keep HB
     obtain⟨rb,ro,eR⟩:∃rb ro,RA k=some ⟨rb,ro,none⟩:=by
       obtain⟨rb,ro,e, -⟩:=fls 0 (by omega)
       exact⟨rb,ro,e⟩
     rw [eR] at cr fls
     clear eR
     go_upto_region 7 with fail
     have h2:Below wr.heap.size wr (wr.alloc (.cells #[] 56)):=by go_grown
     have q0:=ownQ_empty wr
     have fl2:Hid _:=fls
     clear fls cr HH
     generalize wr.alloc (.cells #[] 56)=V1 at *
     go_loopg [6,19] n (fun G s6 s19 wx=>∃(i:Nat) (T:List Nv),s19=.int .i64 (i:Int)∧i≤n∧i+G=n∧T.length=i∧OwnQ wr.heap.size wx s6 T∧NusV wx T (fun c=>V (key (X k c)))∧Below wr.heap.size wr wx)
     case atStart=>exact⟨0,[],rfl,by omega,by omega,rfl,q0,(fun c hc=>by simp at hc),h2⟩
     case round =>
       clear q0 h2
       obtain⟨i,T,rfl,hi,hGi,hT,q,nv,HBi⟩:=hrel
       obtain⟨A10,C10,rfl⟩:=q.form
       by_cases c2:i<n
       · have c2i:(i:Int)<(n:Int):=by omega
         obtain⟨b',o',eA,hb',x0,xw⟩:=Fls.keep fl2.out HBi i c2
         cases eA
         have cf:=fun W=>float_z (X k i) xw (hf k c i c2) W
         have hT2:Hid _:=hT
         clear fl2 hf hT
         go_wp2_with (first
           | (go_at_call 62;(with_reducible refine (cf _).mono ?_);rintro _ W4 ⟨⟨v4,rfl,nz⟩,hb1⟩;obtain⟨g4,a4,l4,k4,e4,rfl⟩:=nz.shape;replace q:=q.keep hb1;replace nv:=nv.keep hb1;replace HBi:=later HBi hb1;clear hb1)
           | (at_builtin;refine wpList_pushQ (by rfl) _ _ (by rfl) _ T ⟨g4,a4,l4,k4,e4⟩ (by rfl) (by rfl) q (by have:=hT2.out;omega) HBi.size HBi ?_;intro v' w' own' HB2 _ _ _ bk))
         (go_roundg (n-i-1)
          case measure=>omega
          case rel=>exact⟨i+1,_,by go_num,by omega,by omega,by rw [List.length_append,hT2.out];rfl,own',(nv.push (by rw [hT2.out];exact nz)).big bk,HB2⟩)
       · have c2i:¬(i:Int)<(n:Int):=by omega
         obtain rfl:i=n:=by omega
         have hvl:vs.length≤1000:=by have:=rows.1;omega
         replace own:=own.keep HBi
         replace rows:=rows.keep HBi
         have sz:=HB.size
         have q2:=q.base sz
         rw [hT] at q2
         replace HB:=later HB HBi
         have hT2:Hid _:=hT
         clear fl2 hT
         go_wp2_with (at_builtin;refine wpList_pushS (by rfl) _ _ (by rfl) _ vs A10 T.length C10 (by rfl) (by rfl) own (by omega) HB.size HB ?_;intro v' w' own' HB2 _ _ kp bk)
         rw [hT2.out] at own'
         (go_roundg (i-k-1)
          case measure=>omega
          case rel=>exact⟨k+1,_,by go_num,by omega,by omega,own',rows.push kp bk hT2.out q2 nv,HB2⟩)
   · have ci:¬(k:Int)<(n:Int):=by omega
     obtain rfl:k=n:=by omega
     clear HH
     go_wp2_with fail
     go_ret
     exact⟨_,vs,rfl,own,rows,HB⟩
def halfF (a:Nat):Nat:=divF a 4611686018427387904 0
theorem half_div {a:Nat} (fa:finB a=true):divR a 4611686018427387904 0=some (halfF a):=divR_fin 0 fa (by decide) (by decide)
theorem half_low {a:Nat} (ha:a<18446744073709551616) (fa:finB a=true) (k:key a≤0):key a≤key (divF a 4611686018427387904 (-1)):=by
 obtain⟨u,hu⟩:∃u:Nat,u=1074:=⟨_,rfl⟩
 obtain⟨u3,hu3⟩:∃u:Nat,u=1075:=⟨_,rfl⟩
 have r3:2^u3=2*2^u:=by rw [show u3=u+1 by omega,Nat.pow_succ,Nat.mul_comm]
 have i3:((2^u3:Nat):Int)=2*((2^u:Nat):Int):=by rw [r3];simp
 have ov:=one_val hu
 have e:=div_exact hu3 ha (b:=4607182418800017408) (by omega) ha fa (by decide) fa (by decide) (by rw [ov,i3,Int.mul_comm 2 (V (key a)),Int.mul_assoc]) (-1)
 have m:V (key 4607182418800017408)≤V (key 4611686018427387904):=V_mono_le (by decide)
 have n:=V_npos k
 clear hu hu3 r3 i3 ov
 rw [←e]
 refine div_le ha (by omega) ha (by omega) fa (by decide) fa (by decide) (by decide) (by decide) ?_
 exact Int.mul_le_mul_of_nonpos_left n m
theorem half_up {a:Nat} (ha:a<18446744073709551616) (fa:finB a=true):key (divF a 4611686018427387904 1)=- key (divF (negB a) 4611686018427387904 (-1)):=by
 have m:=div_mirror (a:=a) (b:=4611686018427387904) (by omega) fa (by decide) (by decide)
 have f:=div_flip (a:=negB a) (b:=4611686018427387904) (negB_lt ha) (by omega) (by rw [finB_negB ha];exact fa) (by decide) (by decide)
 rw [negB_negB ha] at f
 rw [m,f]
theorem half_key {a:Nat} (ha:a<18446744073709551616) (fa:finB a=true):(0≤key a→0≤key (halfF a)∧key (halfF a)≤key a)∧(key a≤0→key a≤key (halfF a)∧key (halfF a)≤0):=by
 have s:=div_sides (a:=a) (b:=4611686018427387904) ha (by omega) fa (by decide) (by decide)
 have u:=half_up ha fa
 have s1:=s.1.le
 have s2:=s.2.1.le
 have kn:=key_negB ha
 have fn:finB (negB a)=true:=by rw [finB_negB ha];exact fa
 unfold halfF
 refine⟨fun k=>⟨?_, ?_⟩,fun k=>⟨?_, ?_⟩⟩
 · have:=div_nonneg (a:=a) (b:=4611686018427387904) ha (by omega) fa (by decide) k (by decide)
   exact Int.le_trans this s1
 · have:=half_low (negB_lt ha) fn (by omega)
   omega
 · have:=half_low ha fa k
   exact Int.le_trans this s1
 · have:=div_nonneg (a:=negB a) (b:=4611686018427387904) (negB_lt ha) (by omega) fn (by decide) (by omega) (by decide)
   omega
theorem half_facts {a:Nat} (ha:a<18446744073709551616) (fa:finB a=true):nanB (halfF a)=false∧halfF a<18446744073709551616∧finB (halfF a)=true:=by
 have f:=divF_facts (a:=a) (b:=4611686018427387904) 0 (by decide)
 have k:=half_key ha fa
 have g:=fin_key ha fa
 have hd:divF a 4611686018427387904 0=halfF a:=rfl
 rw [hd] at f
 refine⟨f.1,f.2.2, ?_⟩
 cases h:finB (halfF a)
 · have:=(key_inf f.2.2 f.1).1 h
   rcases Int.le_total 0 (key a) with c | c
   · have:=k.1 c;omega
   · have:=k.2 c;omega
 · rfl
def midLo (lo:Nat):Nat:=maxW lo 18442240474082181119
def midHi (hi:Nat):Nat:=minW hi 9218868437227405311
def midM (lo hi:Nat):Nat:=addF (halfF (midLo lo)) (halfF (midHi hi)) 0
def midP (lo hi:Nat):Nat:=if hsB lo hi then (if key (midM lo hi)<key (midLo lo) then midLo lo else if key (midHi hi)<key (midM lo hi) then midHi hi else midM lo hi) else 0
theorem midM_facts (lo hi:Nat):nanB (midM lo hi)=false∧midM lo hi≠9223372036854775808∧midM lo hi<18446744073709551616:=by
 unfold midM
 exact addF_facts _ _ 0
theorem midM_is {lo hi:Nat} (f1:finB (halfF (midLo lo))=true) (f2:finB (halfF (midHi hi))=true):addR (halfF (midLo lo)) (halfF (midHi hi)) 0=some (midM lo hi):=by
 unfold midM
 exact addR_fin 0 f1 f2
theorem mid_ends {lo hi:Nat} (hl:lo<18446744073709551616) (hh:hi<18446744073709551616) (S:Some2 lo hi):(midLo lo=if eqB lo (infI (-1)) then 18442240474082181119 else lo)∧(midHi hi=if eqB hi (infI 1) then 9218868437227405311 else hi)∧finB (midLo lo)=true∧finB (midHi hi)=true∧midLo lo<18446744073709551616∧midHi hi<18446744073709551616∧midLo lo≠9223372036854775808∧midHi hi≠9223372036854775808∧key (midLo lo)≤key (midHi hi):=by
 have ei:eqB lo (infI (-1))=decide (key lo=-9218868437227405312):=by unfold eqB;rw [S.nl,nan_inf,key_down];rfl
 have ej:eqB hi (infI 1)=decide (key hi=9218868437227405312):=by unfold eqB;rw [S.nh,nan_inf,key_up];rfl
 have k1:key 18442240474082181119=-9218868437227405311:=by decide
 have k2:key 9218868437227405311=9218868437227405311:=by decide
 have g1:=nanB_key hl S.nl
 have g2:=nanB_key hh S.nh
 have sl:=S.lt
 have sg:=S.gt
 have sle:=S.le
 have F:∀{x:Nat},x<18446744073709551616→nanB x=false→key x≠9218868437227405312→key x≠-9218868437227405312→finB x=true:=fun {x} hx nx n1 n2=>by
   cases h:finB x
   · rcases (key_inf hx nx).1 h with c | c
     · exact absurd c n1
     · exact absurd c n2
   · rfl
 unfold midLo midHi
 rw [maxW_is S.zl (by omega),minW_is S.zh (by omega),ei,ej,k1,k2]
 by_cases c1:key lo < -9218868437227405311
 · have q:key lo=-9218868437227405312:=by omega
   rw [if_pos c1,decide_eq_true q,if_pos rfl]
   by_cases c2:9218868437227405311<key hi
   · have q2:key hi=9218868437227405312:=by omega
     rw [if_pos c2,decide_eq_true q2,if_pos rfl]
     exact⟨rfl,rfl,by decide,by decide,by omega,by omega,by omega,by omega,by rw [k1,k2];omega⟩
   · have q2:¬key hi=9218868437227405312:=by omega
     rw [if_neg c2,decide_eq_false q2,if_neg (by simp)]
     exact⟨rfl,rfl,by decide,F hh S.nh q2 (by omega),by omega,hh,by omega,S.zh,by rw [k1];omega⟩
 · have q:¬key lo=-9218868437227405312:=by omega
   rw [if_neg c1,decide_eq_false q,if_neg (by simp)]
   by_cases c2:9218868437227405311<key hi
   · have q2:key hi=9218868437227405312:=by omega
     rw [if_pos c2,decide_eq_true q2,if_pos rfl]
     exact⟨rfl,rfl,F hl S.nl (by omega) q,by decide,hl,by omega,S.zl,by omega,by rw [k2];omega⟩
   · have q2:¬key hi=9218868437227405312:=by omega
     rw [if_neg c2,decide_eq_false q2,if_neg (by simp)]
     exact⟨rfl,rfl,F hl S.nl (by omega) q,F hh S.nh q2 (by omega),hl,hh,S.zl,S.zh,sle⟩
set_option maxHeartbeats 1000000 in
theorem mid_core (lo hi l h p q m x r:Nat) (b:Bool)
   (c0:∀b' W,W.cell? ⟨b',0,none⟩=some (.float .f64 lo)→W.cell? ⟨b',1,none⟩=some (.float .f64 hi)→Calls Tryz.prog 76 #[.slice (some ⟨b',0,none⟩) 1 1] W fun e w'=>e=.returned (.bool (!b))∧Below W.heap.size W w')
   (m1:b=true→∀ts t w,(Builtin.max_ ts t #[.float .f64 lo,.float .f64 18442240474082181119]).run Tryz.prog w=.ok (.float .f64 l) w)
   (m2:b=true→∀ts t w,(Builtin.min_ ts t #[.float .f64 hi,.float .f64 9218868437227405311]).run Tryz.prog w=.ok (.float .f64 h) w)
   (c1:b=true→∀w,Calls Tryz.prog 56 #[.float .f64 l,.float .f64 4611686018427387904,.int .i64 0] w fun e w'=>e=.returned (.float .f64 p)∧Below w.heap.size w w')
   (c2:b=true→∀w,Calls Tryz.prog 56 #[.float .f64 h,.float .f64 4611686018427387904,.int .i64 0] w fun e w'=>e=.returned (.float .f64 q)∧Below w.heap.size w w')
   (c3:b=true→∀w,Calls Tryz.prog 54 #[.float .f64 p,.float .f64 q,.int .i64 0] w fun e w'=>e=.returned (.float .f64 m)∧Below w.heap.size w w')
   (m3:b=true→∀ts t w,(Builtin.max_ ts t #[.float .f64 m,.float .f64 l]).run Tryz.prog w=.ok (.float .f64 x) w)
   (m4:b=true→∀ts t w,(Builtin.min_ ts t #[.float .f64 x,.float .f64 h]).run Tryz.prog w=.ok (.float .f64 r) w) (w:World) :
   Calls Tryz.prog 48 #[.agg #[.float .f64 lo,.float .f64 hi]] w fun e w'=>e=.returned (.float .f64 (if b then r else 0))∧Below w.heap.size w w':=by
 cases b
 · clear m1 m2 m3 m4 c1 c2 c3
   simp only [Bool.not_false,Bool.false_eq_true,if_false] at c0 ⊢
   go_enter Tryz.func48,Tryz.ntmps48
   go_wp2_with (go_at_call 76;refine (c0 (w.heap.size+1) _ (by go_simp) (by go_simp)).mono ?_;rintro _ w1 ⟨rfl,hb1⟩)
   go_ret
   exact⟨rfl,later (by go_grown) hb1⟩
 · replace m1:=m1 rfl
   replace m2:=m2 rfl
   replace m3:=m3 rfl
   replace m4:=m4 rfl
   replace c1:=c1 rfl
   replace c2:=c2 rfl
   replace c3:=c3 rfl
   simp only [Bool.not_true,if_true] at c0 ⊢
   go_enter Tryz.func48,Tryz.ntmps48
   go_upto_region 3 with
    (go_at_call 76;refine (c0 (w.heap.size+1) _ (by go_simp) (by go_simp)).mono ?_;rintro _ w1 ⟨rfl,hb1⟩
     have X:Has2 w1 w.heap.size (.float .f64 lo) (.float .f64 hi):=Has2.keep ⟨by go_simp,by go_simp,by go_simp,by go_simp,by go_size⟩ hb1
     have HB:Below w.heap.size w w1:=later (by go_grown) hb1)
   clear hb1 c0
   have kx0:=fun n:Behind w1=>n.cell X.1 X.2.2.2.2
   have kx1:=fun n:Behind w1=>n.cell X.2.1 X.2.2.2.2
   refine region_behind (by kernel_rfl) (by kernel_rfl) ?_
   repeat (go_big_quiet_step (fail))
   refine wpQuiet_nil ?_
   rintro _ ⟨n,rfl⟩
   obtain⟨W,hb1⟩:=n
   dsimp only
   clear kx0 kx1
   replace HB:=later HB hb1
   clear hb1
   go_wp2_with (first
     | (go_at_call_of 56 (Value.float .f64 l);refine (c1 _).mono ?_;rintro _ w2 ⟨rfl,hb1⟩;replace HB:=later HB hb1;clear hb1)
     | (go_at_call 56;refine (c2 _).mono ?_;rintro _ w2 ⟨rfl,hb1⟩;replace HB:=later HB hb1;clear hb1)
     | (go_at_call 54;refine (c3 _).mono ?_;rintro _ w2 ⟨rfl,hb1⟩;replace HB:=later HB hb1;clear hb1))
   go_ret
   exact⟨rfl,HB⟩
theorem Mid_w (lo hi:Nat) (hl:lo<18446744073709551616) (hh:hi<18446744073709551616) (w:World):Calls Tryz.prog 48 #[.agg #[.float .f64 lo,.float .f64 hi]] w fun e w'=>e=.returned (.float .f64 (midP lo hi))∧Below w.heap.size w w':=by
 have c0:=fun b W c0 c1=>someEmpty1_w b lo hi hl hh W c0 c1
 have E:=fun h=>mid_ends hl hh (hs_iff.1 h)
 have P:=fun h=>half_facts (E h).2.2.2.2.1 (E h).2.2.1
 have Q:=fun h=>half_facts (E h).2.2.2.2.2.1 (E h).2.2.2.1
 have N:=fun h=>fin_not_nan (E h).2.2.1
 have O:=fun h=>fin_not_nan (E h).2.2.2.1
 have M:=midM_facts lo hi
 have X:hsB lo hi=true→minW (maxW (midM lo hi) (midLo lo)) (midHi hi)=(if key (midM lo hi)<key (midLo lo) then midLo lo else if key (midHi hi)<key (midM lo hi) then midHi hi else midM lo hi):=fun h=>by
   have k:=(E h).2.2.2.2.2.2.2.2
   rw [maxW_is M.2.1 (E h).2.2.2.2.2.2.1]
   by_cases c:key (midM lo hi)<key (midLo lo)
   · rw [if_pos c,if_pos c,minW_is (E h).2.2.2.2.2.2.1 (E h).2.2.2.2.2.2.2.1,if_neg (by omega)]
   · rw [if_neg c,if_neg c,minW_is M.2.1 (E h).2.2.2.2.2.2.2.1]
 have q:=mid_core lo hi (midLo lo) (midHi hi) (halfF (midLo lo)) (halfF (midHi hi)) (midM lo hi) (maxW (midM lo hi) (midLo lo)) (minW (maxW (midM lo hi) (midLo lo)) (midHi hi)) (hsB lo hi) c0
   (fun h ts t w=>max_f hl (by omega) (hs_nan h).1 (by decide) _ ts t w) (fun h ts t w=>min_f hh (by omega) (hs_nan h).2 (by decide) _ ts t w)
   (fun h=>told_calls (half_div (E h).2.2.1) (fun w=>div_w _ _ 0 (E h).2.2.2.2.1 (by omega) w)) (fun h=>told_calls (half_div (E h).2.2.2.1) (fun w=>div_w _ _ 0 (E h).2.2.2.2.2.1 (by omega) w))
   (fun h=>told_calls (midM_is (P h).2.2 (Q h).2.2) (fun w=>add_w _ _ 0 (P h).2.1 (Q h).2.1 w))
   (fun h ts t w=>max_f M.2.2 (E h).2.2.2.2.1 M.1 (N h) _ ts t w)
   (fun h ts t w=>min_f (by rw [maxW_is M.2.1 (E h).2.2.2.2.2.2.1];split;exact (E h).2.2.2.2.1;exact M.2.2) (E h).2.2.2.2.2.1 (by rw [maxW_is M.2.1 (E h).2.2.2.2.2.2.1];split;exact N h;exact M.1) (O h) _ ts t w) w
 unfold midP
 cases h:hsB lo hi
 · rw [h,if_neg (by simp)] at q
   rw [if_neg (by simp)]
   exact q
 · rw [h,if_pos rfl] at q
   rw [if_pos rfl,←X h]
   exact q
theorem addR_bot {a b r:Nat} {d:Int} (ha:a<18446744073709551616) (na:nanB a=false) (k:key a=-9218868437227405312) (h:addR a b d=some r):r=a:=by
 have fa:=(key_inf ha na).2 (Or.inr k)
 unfold addR at h
 rw [fa] at h
 split at h
 · cases h
 · simp only [Bool.false_and,Bool.false_eq_true,if_false] at h
   split at h
   · cases h
   · exact (Option.some.inj h).symm
theorem addR_bot2 {a b r:Nat} {d:Int} (ha:a<18446744073709551616) (hb:b<18446744073709551616) (na:nanB a=false) (nb:nanB b=false) (k:key b=-9218868437227405312) (h:addR a b d=some r):key r=-9218868437227405312:=by
 have fb:=(key_inf hb nb).2 (Or.inr k)
 have zb:isZ b=false:=isZ_pos hb (by omega)
 have sb:=sign_key hb zb
 unfold addR at h
 rw [fb,na,nb] at h
 simp only [Bool.or_self,Bool.and_false,Bool.false_eq_true,if_false,Bool.not_false,Bool.and_true] at h
 cases fa:finB a
 · rw [fa] at h
   have za:isZ a=false:=by
     cases z:isZ a
     · rfl
     · have:=(key_zero ha).1 z
       rcases (key_inf ha na).1 fa with c | c <;> omega
   have sa:=sign_key ha za
   simp only [Bool.not_false,Bool.true_and,Bool.false_eq_true,if_false] at h
   split at h
   · cases h
   · rename_i hc
     have e:=(Option.some.inj h).symm
     rw [e]
     rcases (key_inf ha na).1 fa with c | c
     · rw [sa,sb,decide_eq_false (by omega),decide_eq_true (by omega)] at hc
       exact absurd rfl hc
     · exact c
 · rw [fa] at h
   simp only [Bool.not_true,Bool.false_and,Bool.false_eq_true,if_false,if_true] at h
   rw [←Option.some.inj h]
   exact k
theorem mul_keys {xl xh yl yh:Nat} (h1:xl<18446744073709551616) (h2:xh<18446744073709551616) (h3:yl<18446744073709551616) (h4:yh<18446744073709551616) (S:Some2 xl xh) (T:Some2 yl yh) :
   Some2 (mulP xl xh yl yh).1 (mulP xl xh yl yh).2∧key (mulP xl xh yl yh).1=lowK xl xh yl yh∧key (mulP xl xh yl yh).2=topK xl xh yl yh:=by
 obtain⟨a,X⟩:=held_some h1 h2 S
 obtain⟨b,Y⟩:=held_some h3 h4 T
 obtain⟨m1,m2, -,Z,l1,l2,k1,k2⟩:=mul_ends X Y
 have e:mulP xl xh yl yh=(m1,m2):=by unfold mulP;rw [hs_iff.2 S,hs_iff.2 T,←rmul_is S.nl S.nh T.nl T.nh Z k1 k2];rfl
 rw [e]
 exact⟨Z,k1,k2⟩
end Go.Proofs.YtlabmpngbcnhpaaGreat
