/- Slices of floats as they lie in memory; what allFinite answers. Rows of floats as they lie in memory; what floatsMayBe and the reference's finite answer. What the reference's Floats answers. The unit matrix: lin.One. Rows that the reference appends: One. Floats as intervals: the reference's Points. Floats as intervals: lin.Points. -/
import Derived.Test.YtdokikhhlmelkaaGreatZs32
import Derived.Test.YtdokikhhlmelkaaGreatZs03
import Derived.Test.YtdokikhhlmelkaaGreatZs34
namespace Go.Proofs.YtdokikhhlmelkaaGreat
open Go.ChangeShapes Go.WideShapes Go.ChangeAt Go.RowKit
def Fls (w:World) (A:Option Addr) (n:Nat) (X:Nat→Nat):Prop :=
 ∀i,i<n→∃b o,A=some ⟨b,o,none⟩∧b<w.heap.size∧w.cell? ⟨b,o+i,none⟩=some (.float .f64 (X i))∧X i<18446744073709551616
theorem Fls.keep {w w2:World} {A:Option Addr} {n:Nat} {X:Nat→Nat} (h:Fls w A n X) (hb:Below w.heap.size w w2):Fls w2 A n X:=fun i hi=>by
 obtain⟨b,o,e,l,c0,r⟩:=h i hi
 exact⟨b,o,e,Nat.lt_of_lt_of_le l hb.size,keepsC hb c0 l,r⟩
def finsB (n:Nat) (X:Nat→Nat):Bool:=(List.range n).all (fun i=>finB (X i))
theorem split_fin (x:Nat) (hx:x<18446744073709551616) (w:World) :
   Calls Tryz.prog 79 #[.float .f64 x] w fun r w'=>(∃(g:Bool) (m:Nat) (e:Int),r=.returned (.tuple #[.agg #[.bool g,.int .u64 (m:Int),.int .i64 e],.bool (finB x)]))∧Below w.heap.size w w':=by
 cases hf:finB x
 · exact (split_not x hx hf w).mono fun r w' ⟨h,b⟩=>⟨⟨false,0,0,h⟩,b⟩
 · exact (split_w x hx hf w).mono fun r w' ⟨h,b⟩=>⟨⟨_,_,_,h⟩,b⟩
set_option maxHeartbeats 1000000 in
theorem allFin_w (A:Option Addr) (n C:Nat) (X:Nat→Nat) (hC:n≤9223372036854775807) (w:World) (V:Fls w A n X) :
   Calls Tryz.prog 78 #[.slice A n C] w fun e w'=>e=.returned (.bool (finsB n X))∧Below w.heap.size w w':=by
 have cs:=fun (i:Nat) (h1:X i<18446744073709551616) w=>split_fin (X i) h1 w
 go_enter Tryz.func78,Tryz.ntmps78
 go_wp2_with fail
 go_loopg [9] n (fun G s7 wx=>Below w.heap.size w wx∧∃i:Nat,i+G=n∧s7=.int .i64 (i:Int)∧Hid (∀j,j<i→finB (X j)=true))
 case atStart=>exact⟨Below.refl _ _,0,by omega,rfl,fun j hj=>absurd hj (by omega)⟩
 case round =>
   obtain⟨HB,i,hi,rfl,hall⟩:=hrel
   by_cases ci:i=n
   · subst ci
     have e:finsB i X=true:=all_upto.2 hall
     go_wp2_with fail
     go_ret
     exact⟨(congrArg (fun q=>Ending.returned (Value.bool q)) e).symm,HB⟩
   · have hlt:(i:Int)<(n:Int):=by omega
     obtain⟨b,o,hA,hb,x0,l0⟩:=(V.keep HB) i (by omega)
     have c:=cs i l0
     have hcase:finB (X i)=true∨finB (X i)=false:=by cases finB (X i) <;> simp
     rcases hcase with hq | hq
     · rw [hq] at c
       subst hA
       go_wp2_with (go_at_call 79;refine (c _).mono ?_;rintro _ w1 ⟨⟨g,m,ex,rfl⟩,hb1⟩;replace HB:=later HB hb1)
       go_roundg (n-i-1)
       case measure=>omega
       case rel=>exact⟨below_alloc HB _,i+1,by omega,by go_num,fun j hj=>by rcases Nat.lt_or_ge j i with h | h;exact hall j h;rw [show j=i by omega];exact hq⟩
     · rw [hq] at c
       have e:finsB n X=false:=all_not (i:=i) (by omega) hq
       subst hA
       go_wp2_with (go_at_call 79;refine (c _).mono ?_;rintro _ w1 ⟨⟨g,m,ex,rfl⟩,hb1⟩;replace HB:=later HB hb1)
       go_ret
       exact⟨(congrArg (fun q=>Ending.returned (Value.bool q)) e).symm,below_alloc HB _⟩
theorem fin_le (x:Nat) (hx:x<18446744073709551616):finB x=(leB 18442240474082181119 x&&leB x 9218868437227405311):=by
 have k1:key 18442240474082181119=-9218868437227405311:=by decide
 have k2:key 9218868437227405311=9218868437227405311:=by decide
 have n1:nanB 18442240474082181119=false:=by decide
 have n2:nanB 9218868437227405311=false:=by decide
 unfold leB
 rw [k1,k2,n1,n2,Bool.eq_iff_iff]
 unfold finB nanB key
 simp only [Bool.and_eq_true,Bool.not_eq_true',decide_eq_true_eq,decide_eq_false_iff_not,Bool.not_false,true_and,and_true]
 by_cases b:x<9223372036854775808
 · rw [if_pos b];omega
 · rw [if_neg b];omega
theorem rfin_w (x:Nat) (hx:x<18446744073709551616) (w:World):Calls Tryz.prog 74 #[.float .f64 x] w fun e w'=>e=.returned (.bool (finB x))∧w=w':=by
 have h1:=o_ge (a:=x) (b:=18442240474082181119) hx (by omega)
 have h2:=o_le (a:=x) (b:=9218868437227405311) hx (by omega)
 rw [fin_le x hx]
 generalize leB 18442240474082181119 x=p at *
 generalize leB x 9218868437227405311=q at *
 cases p <;> cases q
 all_goals
   go_enter Tryz.func74,Tryz.ntmps74
   go_wp2_with fail
   go_ret
   exact⟨rfl,rfl⟩
def Rfs (w:World) (A:Option Addr) (N:Nat) (RA:Nat→Option Addr) (RL RC:Nat→Nat) (X:Nat→Nat→Nat):Prop :=
 ∀r,r<N→∃b o,A=some ⟨b,o,none⟩∧b<w.heap.size∧w.cell? ⟨b,o+r,none⟩=some (.slice (RA r) (RL r) (RC r))∧RL r≤9223372036854775807∧Fls w (RA r) (RL r) (X r)
theorem Rfs.keep {w w2:World} {A:Option Addr} {N:Nat} {RA:Nat→Option Addr} {RL RC:Nat→Nat} {X:Nat→Nat→Nat} (h:Rfs w A N RA RL RC X) (hb:Below w.heap.size w w2):Rfs w2 A N RA RL RC X:=fun r hr=>by
 obtain⟨b,o,e,l,c0,c1,i⟩:=h r hr
 exact⟨b,o,e,Nat.lt_of_lt_of_le l hb.size,keepsC hb c0 l,c1,i.keep hb⟩
def rowFB (RL:Nat→Nat) (X:Nat→Nat→Nat) (r:Nat):Bool:=decide (RL r=RL 0)&&dimB (RL r)&&finsB (RL r) (X r)
def fltB (N:Nat) (RL:Nat→Nat) (X:Nat→Nat→Nat):Bool:=(List.range N).all (rowFB RL X)&&dimB N
set_option maxHeartbeats 4000000 in
theorem floatsMay_w (A:Option Addr) (N C:Nat) (RA:Nat→Option Addr) (RL RC:Nat→Nat) (X:Nat→Nat→Nat) (hN:N≤9223372036854775807) (w:World) (V:Rfs w A N RA RL RC X) :
   Calls Tryz.prog 52 #[.slice A N C] w fun e w'=>e=.returned (.bool (fltB N RL X))∧Below w.heap.size w w':=by
 go_enter Tryz.func52,Tryz.ntmps52
 go_wp2_with fail
 go_loopg [7] N (fun G s7 wx=>Below w.heap.size w wx∧∃r:Nat,r+G=N∧s7=.int .i64 (r:Int)∧Hid (∀j,j<r→rowFB RL X j=true))
 case atStart=>exact⟨Below.refl _ _,0,by omega,rfl,fun j hj=>absurd hj (by omega)⟩
 case round =>
   obtain⟨HB,r,hr,rfl,hall⟩:=hrel
   by_cases cr:r=N
   · subst cr
     have e:fltB r RL X=dimB r:=by unfold fltB;rw [all_upto.2 hall,Bool.true_and]
     go_wp2_with (go_at_call 61;refine (isDim_w r hN _).mono ?_;rintro _ _ ⟨rfl,rfl⟩)
     go_ret
     exact⟨(congrArg (fun q=>Ending.returned (Value.bool q)) e).symm,HB⟩
   · have hlt:(r:Int)<(N:Int):=by omega
     have hlt0:(0:Int)<(N:Int):=by omega
     obtain⟨b,o,hA,hb,x0,l0,I⟩:=(V.keep HB) r (by omega)
     obtain⟨b',o',hA',hb',x1,l1, -⟩:=(V.keep HB) 0 (by omega)
     have hE:b'=b∧o'=o:=by
       rw [hA] at hA'
       simp only [Option.some.injEq,Addr.mk.injEq] at hA'
       exact⟨hA'.1.symm,hA'.2.1.symm⟩
     obtain⟨rfl,rfl⟩:=hE
     rw [Nat.add_zero] at x1
     clear hA' hb'
     have c:=fun w2 (hw:Below wr.heap.size wr w2)=>allFin_w (RA r) (RL r) (RC r) (X r) l0 w2 (I.keep hw)
     replace c:=c wr (Below.refl _ _)
     have d:=isDim_w (RL r) l0
     have ne:((RL r:Int) != (RL 0:Int))=!decide (RL r=RL 0):=by
       by_cases q:RL r=RL 0
       · simp [q]
       · rw [decide_eq_false q];simp;omega
     have hp:Hid (rowFB RL X r=(decide (RL r=RL 0)&&dimB (RL r)&&finsB (RL r) (X r))):=rfl
     have hno:Hid (rowFB RL X r=false→fltB N RL X=false):=fun h=>by unfold fltB;rw [all_not (i:=r) (by omega) h,Bool.false_and]
     generalize decide (RL r=RL 0)=p at *
     generalize dimB (RL r)=q at *
     generalize finsB (RL r) (X r)=u at *
     subst hA
     cases p <;> cases q <;> cases u
     all_goals
       go_wp2_with (first
         | (go_at_call 61;with_reducible refine (d _).mono ?_;rintro _ _ ⟨rfl,rfl⟩)
         | (go_at_call 78;with_reducible refine c.mono ?_;rintro _ w1 ⟨rfl,hb1⟩;have y1:=keepsC hb1 x1 hb;replace HB:=later HB hb1))
       first
         | (go_ret
            exact⟨(congrArg (fun q=>Ending.returned (Value.bool q)) (hno (by rw [show rowFB RL X r=_ from hp];rfl))).symm,HB⟩)
         | (go_roundg (N-r-1)
            case measure=>omega
            case rel=>exact⟨HB,r+1,by omega,by go_num,fun j hj=>by rcases Nat.lt_or_ge j r with h | h;exact hall j h;rw [show j=r by omega,show rowFB RL X r=_ from hp];rfl⟩)
theorem rowFB_no {RL:Nat→Nat} {X:Nat→Nat→Nat} {r:Nat} (h:RL r≠RL 0∨RL r=0∨24<RL r∨∃i,i<RL r∧finB (X r i)=false):rowFB RL X r=false:=by
 unfold rowFB
 rcases h with h | h | h | ⟨i,hi,h⟩
 · rw [decide_eq_false h];rfl
 · rw [dim_no (.inl h),Bool.and_false];rfl
 · rw [dim_no (.inr h),Bool.and_false];rfl
 · rw [show finsB (RL r) (X r)=false from all_not hi h,Bool.and_false]
set_option maxHeartbeats 4000000 in
theorem rfloats_w (A:Option Addr) (N C:Nat) (RA:Nat→Option Addr) (RL RC:Nat→Nat) (X:Nat→Nat→Nat) (hN:N≤9223372036854775807) (w:World) (V:Rfs w A N RA RL RC X) :
   Calls Tryz.prog 43 #[.slice A N C] w fun e w'=>e=.returned (.bool (fltB N RL X))∧Below w.heap.size w w':=by
 go_enter Tryz.func43,Tryz.ntmps43
 go_wp2_with fail
 go_loopg [9] N (fun G s7 wx=>Below w.heap.size w wx∧∃r:Nat,r+G=N∧s7=.int .i64 (r:Int)∧Hid (∀j,j<r→rowFB RL X j=true))
 case atStart=>exact⟨Below.refl _ _,0,by omega,rfl,fun j hj=>absurd hj (by omega)⟩
 case round =>
   obtain⟨HB,r,hr,rfl,hall⟩:=hrel
   by_cases cr:r=N
   · subst cr
     have e:Hid (fltB r RL X=dimB r):=show fltB r RL X=dimB r by unfold fltB;rw [all_upto.2 hall,Bool.true_and]
     by_cases c1:1≤r
     · by_cases c2:r≤24
       · have h1:(1:Int)≤(r:Int):=by omega
         have h2:(r:Int)≤24:=by omega
         go_wp2_with fail
         go_ret
         exact⟨(congrArg (fun q=>Ending.returned (Value.bool q)) ((show fltB r RL X=dimB r from e).trans (dim_yes c1 c2))).symm,HB⟩
       · have h1:(1:Int)≤(r:Int):=by omega
         have h2:¬(r:Int)≤24:=by omega
         go_wp2_with fail
         go_ret
         exact⟨(congrArg (fun q=>Ending.returned (Value.bool q)) ((show fltB r RL X=dimB r from e).trans (dim_no (show r=0∨24<r by omega)))).symm,HB⟩
     · have h1:¬(1:Int)≤(r:Int):=by omega
       go_wp2_with fail
       go_ret
       exact⟨(congrArg (fun q=>Ending.returned (Value.bool q)) ((show fltB r RL X=dimB r from e).trans (dim_no (show r=0∨24<r by omega)))).symm,HB⟩
   · have hlt:(r:Int)<(N:Int):=by omega
     have hlt0:(0:Int)<(N:Int):=by omega
     obtain⟨b,o,hA,hb,x0,l0,I⟩:=(V.keep HB) r (by omega)
     obtain⟨b',o',hA',hb',x1,l1, -⟩:=(V.keep HB) 0 (by omega)
     have hE:b'=b∧o'=o:=by
       rw [hA] at hA'
       simp only [Option.some.injEq,Addr.mk.injEq] at hA'
       exact⟨hA'.1.symm,hA'.2.1.symm⟩
     obtain⟨rfl,rfl⟩:=hE
     rw [Nat.add_zero] at x1
     clear hA' hb'
     have hno:Hid (rowFB RL X r=false→fltB N RL X=false):=fun h=>by unfold fltB;rw [all_not (i:=r) (by omega) h,Bool.false_and]
     subst hA
     generalize RA r=P at *
     by_cases g1:1≤RL r
     · by_cases g2:RL r≤24
       · by_cases g3:RL r=RL 0
         · have e1:¬(RL r:Int)<1:=by omega
           have e2:¬(24:Int)<(RL r:Int):=by omega
           have e3:((RL r:Int) != (RL 0:Int))=false:=by simp [g3]
           have G3:Hid (RL r=RL 0):=g3
           clear g3
           go_wp2_with fail
           go_loopg [32] (RL r) (fun G s9 wy=>wy=wr∧∃i:Nat,i+G=RL r∧s9=.int .i64 (i:Int)∧Hid (∀j,j<i→finB (X r j)=true))
           case atStart=>exact⟨rfl,0,by omega,rfl,fun j hj=>absurd hj (by omega)⟩
           case round =>
             obtain⟨rfl,i,hi,rfl,hin⟩:=hrel
             by_cases ci:i=RL r
             · have ci':¬(i:Int)<(RL r:Int):=by omega
               go_wp2_with fail
               go_roundg (N-r-1)
               case measure=>omega
               case rel =>
                 refine⟨HB,r+1,by omega,by go_num,fun j hj=>?_⟩
                 rcases Nat.lt_or_ge j r with h | h
                 · exact hall j h
                 · rw [show j=r by omega]
                   unfold rowFB
                   rw [decide_eq_true (show RL r=RL 0 from G3),dim_yes g1 g2,show finsB (RL r) (X r)=true from all_upto.2 fun j hj=>hin j (by omega)]
                   rfl
             · have hlti:(i:Int)<(RL r:Int):=by omega
               obtain⟨b2,o2,hA2,hb2,y0,m0⟩:=I i (by omega)
               have c:=rfin_w (X r i) m0
               subst hA2
               have hcase:finB (X r i)=true∨finB (X r i)=false:=by cases finB (X r i) <;> simp
               rcases hcase with hq | hq
               · rw [hq] at c
                 go_wp2_with (go_at_call 74;refine (c _).mono ?_;rintro _ _ ⟨rfl,rfl⟩)
                 go_roundg (RL r-i-1)
                 case measure=>omega
                 case rel=>exact⟨rfl,i+1,by omega,by go_num,fun j hj=>by rcases Nat.lt_or_ge j i with h | h;exact hin j h;rw [show j=i by omega];exact hq⟩
               · rw [hq] at c
                 go_wp2_with (go_at_call 74;refine (c _).mono ?_;rintro _ _ ⟨rfl,rfl⟩)
                 go_ret
                 exact⟨(congrArg (fun q=>Ending.returned (Value.bool q)) (hno (rowFB_no (.inr (.inr (.inr ⟨i,by omega,hq⟩)))))).symm,HB⟩
         · have e1:¬(RL r:Int)<1:=by omega
           have e2:¬(24:Int)<(RL r:Int):=by omega
           have e3:((RL r:Int) != (RL 0:Int))=true:=by simp;omega
           go_wp2_with fail
           go_ret
           exact⟨(congrArg (fun q=>Ending.returned (Value.bool q)) (hno (rowFB_no (.inl g3)))).symm,HB⟩
       · have e1:¬(RL r:Int)<1:=by omega
         have e2:(24:Int)<(RL r:Int):=by omega
         go_wp2_with fail
         go_ret
         exact⟨(congrArg (fun q=>Ending.returned (Value.bool q)) (hno (rowFB_no (.inr (.inr (.inl (by omega))))))).symm,HB⟩
     · have e1:(RL r:Int)<1:=by omega
       go_wp2_with fail
       go_ret
       exact⟨(congrArg (fun q=>Ending.returned (Value.bool q)) (hno (rowFB_no (.inr (.inl (by omega)))))).symm,HB⟩
def oneP (r c:Nat):Nat×Nat:=if r=c then makeP 4607182418800017408 4607182418800017408 else (0,0)
set_option maxHeartbeats 4000000 in
theorem One_good (n:Nat) (h1:1≤n) (h2:n≤24) (w:World):Calls Tryz.prog 33 #[.int .i64 (n:Int)] w fun e w'=>∃g h,e=.returned (.slice (some ⟨g,0,none⟩) n n)∧Grd w' g n n h oneP∧Below w.heap.size w w':=by
 have c:∀w,Calls Tryz.prog 61 #[.int .i64 (n:Int)] w fun e w'=>e=.returned (.bool true)∧w=w':=fun w=>by
   rw [←dim_yes h1 h2];exact isDim_w n (by omega) w
 have cg:=fun w=>grid_w n n h2 h2 w
 have cp:=fun w=>point_w 4607182418800017408 (by omega) w
 have hP:Hid (oneP=fun r c=>if r=c then makeP 4607182418800017408 4607182418800017408 else (0,0)):=rfl
 generalize makeP 4607182418800017408 4607182418800017408=P at *
 go_enter Tryz.func33,Tryz.ntmps33
 go_wp2_with (first
   | (go_at_call 61;refine (c _).mono ?_;rintro _ _ ⟨rfl,rfl⟩)
   | (go_at_call 53;refine (cg _).mono ?_;rintro _ w1 ⟨g,h,rfl,G0,hg,hh,HB⟩))
 clear c cg
 go_loopg [12] n (fun G s wx=>Below w.heap.size w wx∧∃j:Nat,j+G=n∧s=.int .i64 (j:Int)∧Grd wx g n n h (fun r c=>if r=c∧r<j then P else (0,0)))
 case atStart=>exact⟨HB,0,by omega,rfl,G0.congr fun r _ c _=>by simp⟩
 case round =>
   clear HB G0
   obtain⟨HB,j,hj,rfl,G0⟩:=hrel
   by_cases cj:j=n
   · subst cj
     go_wp2_with fail
     go_ret
     exact⟨g,h,rfl,by rw [show oneP=_ from hP];exact G0.congr fun r hr c hc=>by simp [hr],HB⟩
   · have hltj:(j:Int)<(n:Int):=by omega
     obtain⟨g0, -⟩:=G0.out.2 j (by omega)
     have gl:=G0.out.1
     go_upto_region 7 with fail
     have kg0:=fun n:Behind wr=>n.cell g0 gl
     refine tail_behind 6 (by kernel_rfl) (by kernel_rfl) ?_
     simp only [List.take_succ_cons,List.take_zero,List.drop_succ_cons,List.drop_zero]
     repeat (go_big_quiet_step (first
       | (go_at_call 28;with_reducible refine Behind.call (cp _))))
     refine wpQuiet_nil ?_
     rintro _ ⟨q,rfl⟩
     obtain⟨W,hb1⟩:=q
     dsimp only
     clear kg0 g0 gl cp
     replace G0:=G0.keep hb1
     replace HB:=later HB hb1
     clear hb1
     obtain⟨i0,i1,f0,f1⟩:=id ((G0.row j (by omega)).2 j (by omega))
     go_wp2_with fail
     go_roundg (n-j-1)
     case measure=>omega
     case rel =>
       have hhi:=hh j (by omega)
       refine⟨?_,j+1,by omega,by go_num,(G0.set j j _ _ (by omega) (by omega)).congr fun r hr c hc=>?_⟩
       · repeat' (first | (with_reducible exact HB) | (with_reducible refine Below.setCell ?_ ?_ _) | go_size | omega)
       · by_cases e:r=j∧c=j
         · obtain⟨rfl,rfl⟩:=e
           simp
         · rw [if_neg e]
           by_cases q:r=c∧r<j
           · rw [if_pos q,if_pos (by omega)]
           · rw [if_neg q,if_neg (by omega)]
def rowZ (Z:Nat→Nat→Nat×Nat) (i n:Nat):List (Nat×Nat):=(List.range n).map fun c=>Z i c
theorem rowZ_step (Z:Nat→Nat→Nat×Nat) (i n:Nat):rowZ Z i (n+1)=rowZ Z i n++[((Z i n).1,(Z i n).2)]:=by
 unfold rowZ;rw [List.range_succ,List.map_append];rfl
theorem rowZ_len (Z:Nat→Nat→Nat×Nat) (i n:Nat):(rowZ Z i n).length=n:=by simp [rowZ]
theorem rowZ_at (Z:Nat→Nat→Nat×Nat) (i n t:Nat) (ht:t<n):(rowZ Z i n).getD t (0,0)=Z i t:=by simp [rowZ,List.getD,ht]
def RowG (B:Nat) (w:World) (Z:Nat→Nat→Nat×Nat) (L i:Nat) (vs:List Value):Prop:=vs.length=i∧∀r,r<i→∃A C,vs[r]?=some (.slice A L C)∧OwnI B w (.slice A L C) (rowZ Z r L)
theorem RowG.keep {B:Nat} {w w2:World} {Z:Nat→Nat→Nat×Nat} {L i:Nat} {vs:List Value} (h:RowG B w Z L i vs) (hb:∀u xs,OwnI B w u xs→OwnI B w2 u xs):RowG B w2 Z L i vs :=
 ⟨h.1,fun r hr=>by obtain⟨A,C,a,b⟩:=h.2 r hr;exact⟨A,C,a,hb _ _ b⟩⟩
theorem RowG.push {B:Nat} {w:World} {Z:Nat→Nat→Nat×Nat} {L i:Nat} {vs:List Value} (h:RowG B w Z L i vs) {A:Option Addr} {C:Nat} (k:OwnI B w (.slice A L C) (rowZ Z i L)):RowG B w Z L (i+1) (vs++[.slice A L C]):=by
 refine⟨by rw [List.length_append,h.1];rfl,fun r hr=>?_⟩
 by_cases e:r=i
 · subst e
   refine⟨A,C, ?_,k⟩
   rw [←h.1]
   simp
 · obtain⟨A',C',a,b⟩:=h.2 r (by omega)
   refine⟨A',C', ?_,b⟩
   rw [List.getElem?_append_left (by rw [h.1];omega)]
   exact a
theorem RowG.rws {B:Nat} {w:World} {Z:Nat→Nat→Nat×Nat} {L N:Nat} {v:Value} {vs:List Value} (h:RowG B w Z L N vs) (k:OwnR B w v vs) (hL:L≤9223372036854775807) (hw:∀r,r<N→∀c,c<L→(Z r c).1<18446744073709551616∧(Z r c).2<18446744073709551616) :
   ∃A C RA RC,v=.slice A N C∧Rws w A N RA (fun _=>L) RC Z:=by
 obtain⟨f,hf⟩:=Classical.axiomOfChoice (fun r=>(show ∃p:Option Addr×Nat,r<N→vs[r]?=some (.slice p.1 L p.2)∧OwnI B w (.slice p.1 L p.2) (rowZ Z r L) by
   by_cases hr:r<N
   · obtain⟨A,C,a,b⟩:=h.2 r hr
     exact⟨(A,C),fun _=>⟨a,b⟩⟩
   · exact⟨(none,0),fun q=>absurd q hr⟩))
 have k':w.ownsRow B 24 1 v vs.length vs:=k
 rcases k'.2 with ⟨rfl,hn⟩ | ⟨g,cap,cur,rfl, -⟩
 · have e:N=0:=by rw [←h.1];exact hn
   subst e
   exact⟨none,0,fun _=>none,fun _=>0,rfl,fun r hr=>absurd hr (by omega)⟩
 · rw [h.1] at k' ⊢
   have hl:=(World.ownsRow.lt k' g rfl).2
   refine⟨_,cap,fun r=>(f r).1,fun r=>(f r).2,rfl,fun r hr=>?_⟩
   obtain⟨a,b⟩:=hf r hr
   obtain⟨A',C',e,J⟩:=ownI_ivs b (fun p hp=>by
     simp only [rowZ,List.mem_map,List.mem_range] at hp
     obtain⟨t,ht,rfl⟩:=hp
     exact hw r hr t ht)
   rw [rowZ_len] at e J
   have e1:(f r).1=A':=by injection e
   refine⟨g,0,rfl,hl, ?_,hL, ?_⟩
   · rw [Nat.zero_add,World.ownsRow.cellAt k' r (by omega)]
     exact a
   · show Ivs w (f r).1 L (Z r)
     rw [e1]
     intro i hi
     rw [←rowZ_at Z r L i hi]
     exact J i hi
set_option maxHeartbeats 8000000 in
theorem rOne_w (n:Nat) (h2:n≤24) (w:World) :
   Calls Tryz.prog 19 #[.int .i64 (n:Int)] w fun e w'=>∃v vs,e=.returned v∧OwnR w.heap.size w' v vs∧RowG w.heap.size w' oneP n n vs∧Below w.heap.size w w':=by
 have c1:∀w,Calls Tryz.prog 14 #[.float .f64 4607182418800017408,.float .f64 4607182418800017408] w fun e w'=>e=.returned (.agg #[.float .f64 (makeP 4607182418800017408 4607182418800017408).1,.float .f64 (makeP 4607182418800017408 4607182418800017408).2])∧Below w.heap.size w w':=fun w=>rmake_w _ _ (by omega) (by omega) w
 have c0:=zero_make
 have hle:¬(24:Int)<(n:Int):=by omega
 have E:=ownR_empty w
 have hB0:Below w.heap.size w (w.alloc (.cells #[] 24)):=below_alloc (Below.refl _ _) _
 go_enter Tryz.func19,Tryz.ntmps19
 go_wp2_with fail
 go_loopg [3,4] n (fun G s3 s4 wx=>Below w.heap.size w wx∧w.heap.size≤wx.heap.size∧∃(i:Nat) (vs:List Value),i+G=n∧s4=.int .i64 (i:Int)∧OwnR w.heap.size wx s3 vs∧RowG w.heap.size wx oneP n i vs)
 case atStart=>exact⟨hB0,hB0.size,0,[],by omega,rfl,E,rfl,fun r hr=>absurd hr (by omega)⟩
 case round =>
   clear E hB0
   obtain⟨HB,hSz,i,vs,hi,rfl,hown,hrow⟩:=hrel
   by_cases ci:i=n
   · subst ci
     go_wp2_with fail
     go_ret
     exact⟨_,vs,rfl,hown,hrow,HB⟩
   · have hlti:(i:Int)<(n:Int):=by omega
     have E1:=ownI_empty wr
     have hB1:Below wr.heap.size wr (wr.alloc (.cells #[] 38)):=below_alloc (Below.refl _ _) _
     obtain⟨w1,rfl⟩:∃w1,w1=wr:=⟨_,rfl⟩
     go_wp2_with fail
     go_loopg [5,6] n (fun G s5 s6 wy=>Below w1.heap.size w1 wy∧w1.heap.size≤wy.heap.size∧∃j:Nat,j+G=n∧s6=.int .i64 (j:Int)∧OwnI w1.heap.size wy s5 (rowZ oneP i j))
     case atStart=>exact⟨hB1,hB1.size,0,by omega,rfl,E1⟩
     case round =>
       clear E1 hB1
       obtain⟨HC,hSy,j,hj,rfl,hownI⟩:=hrel
       by_cases cj:j=n
       · subst cj
         obtain⟨A',C',hv⟩:=hownI.form
         rw [rowZ_len] at hv
         subst hv
         have hlen:vs.length≤2000000:=by rw [hrow.1];omega
         have hownR:=hown.keep HC
         have hrow1:=hrow.keep fun u xs q=>q.keep HC
         have HB1:=later HB HC
         have hS1:=HB1.size
         go_wp2_with (at_builtin;refine wpList_pushR (by rfl) _ _ (by rfl) _ vs A' j C' (by rfl) (by rfl) hownR hlen hS1 HB1 ?_;intro v' w' hown' hB' hS' hkeep)
         go_roundg (j-i-1)
         case measure=>omega
         case rel=>exact⟨hB',hS',i+1,_,by omega,by go_num,hown',(hrow1.keep hkeep).push (hkeep _ _ (hownI.base hSz))⟩
       · have hltj:(j:Int)<(n:Int):=by omega
         have hlen:(rowZ oneP i j).length≤2000000:=by rw [rowZ_len];omega
         by_cases eij:i=j
         · have eZ:Hid (oneP i j=makeP 4607182418800017408 4607182418800017408):=if_pos eij
           have eI:((i:Int)==(j:Int))=true:=by simp [eij]
           clear eij
           go_wp2_with (first
             | (go_at_call 14;refine (c1 _).mono ?_;rintro _ w3 ⟨rfl,hb1⟩;replace hownI:=OwnI.keep hownI hb1;replace HC:=later HC hb1;have hS1:=HC.size)
             | (at_builtin;refine wpList_pushI (by rfl) _ _ (by rfl) _ (rowZ oneP i j) (makeP 4607182418800017408 4607182418800017408).1 (makeP 4607182418800017408 4607182418800017408).2 (by rfl) (by rfl) hownI hlen hS1 HC ?_;intro v' w' hown' hB' hS'))
           go_roundg (n-j-1)
           case measure=>omega
           case rel=>exact⟨hB',hS',j+1,by omega,by go_num,by rw [rowZ_step,show oneP i j=_ from eZ];exact hown'⟩
         · have eZ:Hid (oneP i j=(0,0)):=if_neg eij
           have eI:((i:Int)==(j:Int))=false:=by simp;omega
           go_wp2_with (first
             | (go_at_call 14;refine (c0 _).mono ?_;rintro _ w3 ⟨rfl,hb1⟩;replace hownI:=OwnI.keep hownI hb1;replace HC:=later HC hb1;have hS1:=HC.size)
             | (at_builtin;refine wpList_pushI (by rfl) _ _ (by rfl) _ (rowZ oneP i j) 0 0 (by rfl) (by rfl) hownI hlen hS1 HC ?_;intro v' w' hown' hB' hS'))
           go_roundg (n-j-1)
           case measure=>omega
           case rel=>exact⟨hB',hS',j+1,by omega,by go_num,by rw [rowZ_step,show oneP i j=_ from eZ];exact hown'⟩
def ptsP (X:Nat→Nat→Nat) (r c:Nat):Nat×Nat:=makeP (X r c) (X r c)
theorem fltB_parts {N:Nat} {RL:Nat→Nat} {X:Nat→Nat→Nat} (h:fltB N RL X=true):1≤N∧N≤24∧(∀r,r<N→RL r=RL 0)∧1≤RL 0∧RL 0≤24:=by
 unfold fltB at h
 rw [Bool.and_eq_true] at h
 obtain⟨a,b⟩:=h
 have b':1≤N∧N≤24:=of_decide_eq_true b
 have q:=all_upto.1 a
 have z:=q 0 (by omega)
 unfold rowFB at z
 simp only [Bool.and_eq_true] at z
 have z':1≤RL 0∧RL 0≤24:=of_decide_eq_true z.1.2
 refine⟨b'.1,b'.2,fun r hr=>?_,z'.1,z'.2⟩
 have y:=q r hr
 unfold rowFB at y
 simp only [Bool.and_eq_true] at y
 exact of_decide_eq_true y.1.1
set_option maxHeartbeats 2000000 in
theorem rPoints_bad (A:Option Addr) (N C:Nat) (RA:Nat→Option Addr) (RL RC:Nat→Nat) (X:Nat→Nat→Nat) (hN:N≤9223372036854775807) (hf:fltB N RL X=false) (w:World) (V:Rfs w A N RA RL RC X) :
   Calls Tryz.prog 18 #[.slice A N C] w fun e w'=>∃B D,e=.returned (.slice B 0 D)∧Below w.heap.size w w':=by
 have hB0:Below w.heap.size w (w.alloc (.cells #[] 24)):=below_alloc (Below.refl _ _) _
 have c:=rfloats_w A N C RA RL RC X hN _ (V.keep hB0)
 rw [hf] at c
 go_enter Tryz.func18,Tryz.ntmps18
 go_wp2_with (go_at_call 43;refine c.mono ?_;rintro _ w1 ⟨rfl,hb1⟩;replace hB0:=later hB0 hb1)
 go_ret
 exact⟨_,_,rfl,hB0⟩
set_option maxHeartbeats 8000000 in
theorem rPoints_good (A:Option Addr) (N C:Nat) (RA:Nat→Option Addr) (RL RC:Nat→Nat) (X:Nat→Nat→Nat) (hN:N≤9223372036854775807) (hf:fltB N RL X=true) (w:World) (V:Rfs w A N RA RL RC X) :
   Calls Tryz.prog 18 #[.slice A N C] w fun e w'=>∃v vs,e=.returned v∧OwnR w.heap.size w' v vs∧RowG w.heap.size w' (ptsP X) (RL 0) N vs∧Below w.heap.size w w':=by
 have hB0:Below w.heap.size w (w.alloc (.cells #[] 24)):=below_alloc (Below.refl _ _) _
 have E:=ownR_empty w
 have c:=rfloats_w A N C RA RL RC X hN _ (V.keep hB0)
 rw [hf] at c
 obtain⟨n1,n2,hRL,m1,m2⟩:=fltB_parts hf
 have HR:Hid (∀r,r<N→RL r=RL 0):=hRL
 clear hf hRL
 obtain⟨L,hL⟩:∃L,L=RL 0:=⟨_,rfl⟩
 have HR':Hid (∀r,r<N→RL r=L):=fun r hr=>(HR r hr).trans hL.symm
 rw [←hL] at m1 m2 ⊢
 clear hL HR
 go_enter Tryz.func18,Tryz.ntmps18
 go_wp2_with (go_at_call 43;refine c.mono ?_;rintro _ w1 ⟨rfl,hb1⟩;replace hB0:=later hB0 hb1;replace E:=E.keep hb1)
 clear c
 go_loopg [3,16] N (fun G s3 s16 wx=>Below w.heap.size w wx∧w.heap.size≤wx.heap.size∧∃(i:Nat) (vs:List Value),i+G=N∧s16=.int .i64 (i:Int)∧OwnR w.heap.size wx s3 vs∧RowG w.heap.size wx (ptsP X) L i vs)
 case atStart=>exact⟨hB0,hB0.size,0,[],by omega,rfl,E,rfl,fun r hr=>absurd hr (by omega)⟩
 case round =>
   clear E hB0
   obtain⟨HB,hSz,i,vs,hi,rfl,hown,hrow⟩:=hrel
   by_cases ci:i=N
   · subst ci
     go_wp2_with fail
     go_ret
     exact⟨_,vs,rfl,hown,hrow,HB⟩
   · have hlti:(i:Int)<(N:Int):=by omega
     obtain⟨b',o',hA,hb',y0,l0,I⟩:=(V.keep HB) i (by omega)
     rw [HR' i (by omega)] at y0 I
     clear l0
     have E1:=ownI_empty wr
     have hB1:Below wr.heap.size wr (wr.alloc (.cells #[] 38)):=below_alloc (Below.refl _ _) _
     subst hA
     generalize RA i=P at *
     obtain⟨w1,rfl⟩:∃w1,w1=wr:=⟨_,rfl⟩
     go_wp2_with fail
     go_loopg [6,23] L (fun G s6 s23 wy=>Below w1.heap.size w1 wy∧w1.heap.size≤wy.heap.size∧∃j:Nat,j+G=L∧s23=.int .i64 (j:Int)∧OwnI w1.heap.size wy s6 (rowZ (ptsP X) i j))
     case atStart=>exact⟨hB1,hB1.size,0,by omega,rfl,E1⟩
     case round =>
       clear E1 hB1
       obtain⟨HC,hSy,j,hj,rfl,hownI⟩:=hrel
       by_cases cj:j=L
       · subst cj
         obtain⟨A',C',hv⟩:=hownI.form
         rw [rowZ_len] at hv
         subst hv
         have hlen:vs.length≤2000000:=by rw [hrow.1];omega
         have hownR:=hown.keep HC
         have hrow1:=hrow.keep fun u xs q=>q.keep HC
         have HB1:=later HB HC
         have hS1:=HB1.size
         go_wp2_with (at_builtin;refine wpList_pushR (by rfl) _ _ (by rfl) _ vs A' j C' (by rfl) (by rfl) hownR hlen hS1 HB1 ?_;intro v' w' hown' hB' hS' hkeep)
         go_roundg (N-i-1)
         case measure=>omega
         case rel=>exact⟨hB',hS',i+1,_,by omega,by go_num,hown',(hrow1.keep hkeep).push (hkeep _ _ (hownI.base hSz))⟩
       · have hltj:(j:Int)<(L:Int):=by omega
         have hlen:(rowZ (ptsP X) i j).length≤2000000:=by rw [rowZ_len];omega
         obtain⟨b2,o2,hA2,hb2,z0,k0⟩:=(I.keep HC) j (by omega)
         have cm:∀w,Calls Tryz.prog 14 #[.float .f64 (X i j),.float .f64 (X i j)] w fun e w'=>e=.returned (.agg #[.float .f64 (ptsP X i j).1,.float .f64 (ptsP X i j).2])∧Below w.heap.size w w':=fun w=>rmake_w _ _ k0 k0 w
         subst hA2
         go_wp2_with (first
           | (go_at_call 14;refine (cm _).mono ?_;rintro _ w3 ⟨rfl,hb1⟩;replace hownI:=OwnI.keep hownI hb1;replace HC:=later HC hb1;have hS1:=HC.size)
           | (at_builtin;refine wpList_pushI (by rfl) _ _ (by rfl) _ (rowZ (ptsP X) i j) (ptsP X i j).1 (ptsP X i j).2 (by rfl) (by rfl) hownI hlen hS1 HC ?_;intro v' w' hown' hB' hS'))
         go_roundg (L-j-1)
         case measure=>omega
         case rel=>exact⟨hB',hS',j+1,by omega,by go_num,by rw [rowZ_step];exact hown'⟩
set_option maxHeartbeats 2000000 in
theorem Points_bad (A:Option Addr) (N C:Nat) (RA:Nat→Option Addr) (RL RC:Nat→Nat) (X:Nat→Nat→Nat) (hN:N≤9223372036854775807) (hf:fltB N RL X=false) (w:World) (V:Rfs w A N RA RL RC X) :
   Calls Tryz.prog 26 #[.slice A N C] w fun e w'=>e=.returned (.slice none 0 0)∧Below w.heap.size w w':=by
 have c:=floatsMay_w A N C RA RL RC X hN w V
 rw [hf] at c
 go_enter Tryz.func26,Tryz.ntmps26
 go_wp2_with (go_at_call 52;refine c.mono ?_;rintro _ w1 ⟨rfl,hb1⟩)
 go_ret
 exact⟨rfl,hb1⟩
set_option maxHeartbeats 8000000 in
theorem Points_new (A:Option Addr) (N C:Nat) (RA:Nat→Option Addr) (RL RC:Nat→Nat) (X:Nat→Nat→Nat) (hN:N≤9223372036854775807) (hf:fltB N RL X=true) (w:World) (V:Rfs w A N RA RL RC X) :
   Calls Tryz.prog 26 #[.slice A N C] w fun e w'=>∃g h,e=.returned (.slice (some ⟨g,0,none⟩) N N)∧Grd w' g N (RL 0) h (ptsP X)∧(∀r,r<N→w.heap.size≤h r)∧Below w.heap.size w w':=by
 have c:=floatsMay_w A N C RA RL RC X hN w V
 rw [hf] at c
 obtain⟨n1,n2,hRL,m1,m2⟩:=fltB_parts hf
 obtain⟨b,o,hA,hb,x0, -, -⟩:=V 0 (by omega)
 rw [Nat.add_zero] at x0
 have HR:Hid (∀r,r<N→RL r=RL 0):=hRL
 clear hf hRL
 obtain⟨L,hL⟩:∃L,L=RL 0:=⟨_,rfl⟩
 have HR':Hid (∀r,r<N→RL r=L):=fun r hr=>(HR r hr).trans hL.symm
 rw [←hL] at m1 m2 x0 ⊢
 clear hL HR
 have cg:=fun w=>grid_w N L n2 m2 w
 have hlt0:(0:Int)<(N:Int):=by omega
 subst hA
 go_enter Tryz.func26,Tryz.ntmps26
 go_wp2_with (first
   | (go_at_call 52;refine c.mono ?_;rintro _ w1 ⟨rfl,HB⟩;replace x0:=keepsC HB x0 hb)
   | (go_at_call 53;refine (cg _).mono ?_;rintro _ w2 ⟨g,h,rfl,G0,hg,hh,hb1⟩))
 replace hg:w.heap.size≤g:=Nat.le_trans HB.size hg
 replace hh:∀r,r<N→w.heap.size≤h r:=fun r hr=>Nat.le_trans HB.size (hh r hr)
 replace HB:=later HB hb1
 clear c cg hb1 x0
 go_loopg [20] N (fun G s20 wx=>Below w.heap.size w wx∧∃i:Nat,i+G=N∧s20=.int .i64 (i:Int)∧Grd wx g N L h (fun r c=>if r<i then ptsP X r c else (0,0)))
 case atStart=>exact⟨HB,0,by omega,rfl,G0.congr fun r _ c _=>by simp⟩
 case round =>
   clear HB G0
   obtain⟨HB,i,hi,rfl,G0⟩:=hrel
   by_cases ci:i=N
   · subst ci
     go_wp2_with fail
     go_ret
     exact⟨g,h,rfl,G0.congr fun r hr c hc=>by simp [hr],hh,HB⟩
   · have hlti:(i:Int)<(N:Int):=by omega
     obtain⟨b',o',hA,hb',y0, -,I⟩:=V i (by omega)
     simp only [Option.some.injEq,Addr.mk.injEq,and_true] at hA
     obtain⟨rfl,rfl⟩:=hA
     rw [HR' i (by omega)] at y0 I
     replace y0:=keepsC HB y0 hb'
     generalize RA i=P at *
     go_wp2_with fail
     go_loopg [27] L (fun G s27 wy=>Below w.heap.size w wy∧∃j:Nat,j+G=L∧s27=.int .i64 (j:Int)∧Grd wy g N L h (fun r c=>if r<i∨(r=i∧c<j) then ptsP X r c else (0,0)))
     case atStart=>exact⟨HB,0,by omega,rfl,G0.congr fun r _ c _=>by simp⟩
     case round =>
       clear HB G0 y0
       obtain⟨HB,j,hj,rfl,G0⟩:=hrel
       by_cases cj:j=L
       · subst cj
         go_wp2_with fail
         go_roundg (N-i-1)
         case measure=>omega
         case rel =>
           refine⟨HB,i+1,by omega,by go_num,G0.congr fun r hr c hc=>?_⟩
           by_cases q:r<i+1
           · simp only [q,show r<i∨r=i∧c<j by omega,if_true]
           · simp only [q,show ¬(r<i∨r=i∧c<j) by omega,if_false]
       · have hltj:(j:Int)<(L:Int):=by omega
         obtain⟨b2,o2,hA2,hb2,z0,k0⟩:=(I.keep HB) j (by omega)
         have cp:∀w,Calls Tryz.prog 28 #[.float .f64 (X i j)] w fun e w'=>e=.returned (.agg #[.float .f64 (ptsP X i j).1,.float .f64 (ptsP X i j).2])∧Below w.heap.size w w':=fun w=>point_w _ k0 w
         obtain⟨g0, -⟩:=G0.out.2 i (by omega)
         have gl:=G0.out.1
         subst hA2
         go_upto_region 10 with fail
         have kg0:=fun n:Behind wr=>n.cell g0 gl
         refine tail_behind 7 (by kernel_rfl) (by kernel_rfl) ?_
         simp only [List.take_succ_cons,List.take_zero,List.drop_succ_cons,List.drop_zero]
         repeat (go_big_quiet_step (first
           | (go_at_call 28;with_reducible refine Behind.call (cp _))))
         refine wpQuiet_nil ?_
         rintro _ ⟨q,rfl⟩
         obtain⟨W,hb1⟩:=q
         dsimp only
         clear kg0 g0 gl cp z0
         replace G0:=G0.keep hb1
         replace HB:=later HB hb1
         clear hb1
         obtain⟨i0,i1,f0,f1⟩:=id ((G0.row i (by omega)).2 j (by omega))
         go_wp2_with fail
         go_roundg (L-j-1)
         case measure=>omega
         case rel =>
           have hhi:=hh i (by omega)
           refine⟨?_,j+1,by omega,by go_num,(G0.set i j _ _ (by omega) (by omega)).congr fun r hr c hc=>?_⟩
           · repeat' (first | (with_reducible exact HB) | (with_reducible refine Below.setCell ?_ ?_ _) | go_size | omega)
           · by_cases e:r=i∧c=j
             · obtain⟨rfl,rfl⟩:=e
               simp
             · rw [if_neg e]
               by_cases q:r<i∨r=i∧c<j
               · rw [if_pos q,if_pos (by omega)]
               · rw [if_neg q,if_neg (by omega)]
theorem Points_good (A:Option Addr) (N C:Nat) (RA:Nat→Option Addr) (RL RC:Nat→Nat) (X:Nat→Nat→Nat) (hN:N≤9223372036854775807) (hf:fltB N RL X=true) (w:World) (V:Rfs w A N RA RL RC X) :
   Calls Tryz.prog 26 #[.slice A N C] w fun e w'=>∃g h,e=.returned (.slice (some ⟨g,0,none⟩) N N)∧Grd w' g N (RL 0) h (ptsP X)∧Below w.heap.size w w' :=
 (Points_new A N C RA RL RC X hN hf w V).mono fun _ _ ⟨g,h,a,b,_,d⟩=>⟨g,h,a,b,d⟩
end Go.Proofs.YtdokikhhlmelkaaGreat
