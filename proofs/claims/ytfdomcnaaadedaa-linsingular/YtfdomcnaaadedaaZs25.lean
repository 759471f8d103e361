/- Slices of floats as they lie in memory; what allFinite answers. Rows of floats as they lie in memory; what floatsMayBe and the reference's finite answer. What the reference's Floats answers. The unit matrix: lin.One. Rows that the reference appends: One. Floats as intervals: the reference's Points. Floats as intervals: lin.Points. -/
import Derived.Test.YtfdomcnaaadedaaZs23
import Derived.Test.YtfdomcnaaadedaaZs03
import Derived.Test.YtfdomcnaaadedaaZs24
namespace Go.Proofs.Ytfdomcnaaadedaa
open Go.ChangeShapes Go.WideShapes Go.ChangeAt Go.RowKit
def Fls (w:World) (A:Option Addr) (n:Nat) (X:Nat→Nat):Prop :=
 ∀i,i<n→∃b o,A=some ⟨b,o,none⟩∧b<w.heap.size∧w.cell? ⟨b,o+i,none⟩=some (.float .f64 (X i))∧X i<18446744073709551616
theorem Fls.keep {w w2:World} {A:Option Addr} {n:Nat} {X:Nat→Nat} (h:Fls w A n X) (hb:Below w.heap.size w w2):Fls w2 A n X:=fun i hi=>by
 obtain⟨b,o,e,l,c0,r⟩:=h i hi
 exact⟨b,o,e,Nat.lt_of_lt_of_le l hb.size,keepsC hb c0 l,r⟩
def finsB (n:Nat) (X:Nat→Nat):Bool:=(List.range n).all (fun i=>finB (X i))
theorem split_fin (x:Nat) (hx:x<18446744073709551616) (w:World) :
   Calls Try.prog 68 #[.float .f64 x] w fun r w'=>(∃(g:Bool) (m:Nat) (e:Int),r=.returned (.tuple #[.agg #[.bool g,.int .u64 (m:Int),.int .i64 e],.bool (finB x)]))∧Below w.heap.size w w':=by
 cases hf:finB x
 · exact (split_not x hx hf w).mono fun r w' ⟨h,b⟩=>⟨⟨false,0,0,h⟩,b⟩
 · exact (split_w x hx hf w).mono fun r w' ⟨h,b⟩=>⟨⟨_,_,_,h⟩,b⟩
set_option maxHeartbeats 1000000 in
theorem allFin_w (A:Option Addr) (n C:Nat) (X:Nat→Nat) (hC:n≤9223372036854775807) (w:World) (V:Fls w A n X) :
   Calls Try.prog 61 #[.slice A n C] w fun e w'=>e=.returned (.bool (finsB n X))∧Below w.heap.size w w':=by
 have cs:=fun (i:Nat) (h1:X i<18446744073709551616) w=>split_fin (X i) h1 w
 go_enter Try.func61,Try.ntmps61
 go_wp2_with fail
 go_loopg [9] n (fun G s7 wx=>Below w.heap.size w wx∧∃i:Nat,i+G=n∧s7=.int .i64 (i:Int)∧Hid (∀j,j<i→finB (X j)=true))
 case atStart=>exact⟨Below.refl _ _,0,by omega,rfl,fun j hj=>absurd hj (by omega)⟩
 case round =>
   obtain⟨HB,i,hi,rfl,hall⟩:=hrel
   by_cases ci:i=n
   · subst ci
     have e:finsB i X=true:=all_upto.2 hall
     go_wp2_with fail
     go_ret
     exact⟨(congrArg (fun q=>Ending.returned (Value.bool q)) e).symm,HB⟩
   · have hlt:(i:Int)<(n:Int):=by omega
     obtain⟨b,o,hA,hb,x0,l0⟩:=(V.keep HB) i (by omega)
     have c:=cs i l0
     have hcase:finB (X i)=true∨finB (X i)=false:=by cases finB (X i) <;> simp
     rcases hcase with hq | hq
     · rw [hq] at c
       subst hA
       go_wp2_with (go_at_call 68;refine (c _).mono ?_;rintro _ w1 ⟨⟨g,m,ex,rfl⟩,hb1⟩;replace HB:=later HB hb1)
       go_roundg (n-i-1)
       case measure=>omega
       case rel=>exact⟨below_alloc HB _,i+1,by omega,by go_num,fun j hj=>by rcases Nat.lt_or_ge j i with h | h;exact hall j h;rw [show j=i by omega];exact hq⟩
     · rw [hq] at c
       have e:finsB n X=false:=all_not (i:=i) (by omega) hq
       subst hA
       go_wp2_with (go_at_call 68;refine (c _).mono ?_;rintro _ w1 ⟨⟨g,m,ex,rfl⟩,hb1⟩;replace HB:=later HB hb1)
       go_ret
       exact⟨(congrArg (fun q=>Ending.returned (Value.bool q)) e).symm,below_alloc HB _⟩
theorem fin_le (x:Nat) (hx:x<18446744073709551616):finB x=(leB 18442240474082181119 x&&leB x 9218868437227405311):=by
 have k1:key 18442240474082181119=-9218868437227405311:=by decide
 have k2:key 9218868437227405311=9218868437227405311:=by decide
 have n1:nanB 18442240474082181119=false:=by decide
 have n2:nanB 9218868437227405311=false:=by decide
 unfold leB
 rw [k1,k2,n1,n2,Bool.eq_iff_iff]
 unfold finB nanB key
 simp only [Bool.and_eq_true,Bool.not_eq_true',decide_eq_true_eq,decide_eq_false_iff_not,Bool.not_false,true_and,and_true]
 by_cases b:x<9223372036854775808
 · rw [if_pos b];omega
 · rw [if_neg b];omega
theorem rfin_w (x:Nat) (hx:x<18446744073709551616) (w:World):Calls Try.prog 30 #[.float .f64 x] w fun e w'=>e=.returned (.bool (finB x))∧w=w':=by
 have h1:=o_ge (a:=x) (b:=18442240474082181119) hx (by omega)
 have h2:=o_le (a:=x) (b:=9218868437227405311) hx (by omega)
 rw [fin_le x hx]
 generalize leB 18442240474082181119 x=p at *
 generalize leB x 9218868437227405311=q at *
 cases p <;> cases q
 all_goals
   go_enter Try.func30,Try.ntmps30
   go_wp2_with fail
   go_ret
   exact⟨rfl,rfl⟩
def Rfs (w:World) (A:Option Addr) (N:Nat) (RA:Nat→Option Addr) (RL RC:Nat→Nat) (X:Nat→Nat→Nat):Prop :=
 ∀r,r<N→∃b o,A=some ⟨b,o,none⟩∧b<w.heap.size∧w.cell? ⟨b,o+r,none⟩=some (.slice (RA r) (RL r) (RC r))∧RL r≤9223372036854775807∧Fls w (RA r) (RL r) (X r)
theorem Rfs.keep {w w2:World} {A:Option Addr} {N:Nat} {RA:Nat→Option Addr} {RL RC:Nat→Nat} {X:Nat→Nat→Nat} (h:Rfs w A N RA RL RC X) (hb:Below w.heap.size w w2):Rfs w2 A N RA RL RC X:=fun r hr=>by
 obtain⟨b,o,e,l,c0,c1,i⟩:=h r hr
 exact⟨b,o,e,Nat.lt_of_lt_of_le l hb.size,keepsC hb c0 l,c1,i.keep hb⟩
def rowFB (RL:Nat→Nat) (X:Nat→Nat→Nat) (r:Nat):Bool:=decide (RL r=RL 0)&&dimB (RL r)&&finsB (RL r) (X r)
def fltB (N:Nat) (RL:Nat→Nat) (X:Nat→Nat→Nat):Bool:=(List.range N).all (rowFB RL X)&&dimB N
set_option maxHeartbeats 4000000 in
theorem floatsMay_w (A:Option Addr) (N C:Nat) (RA:Nat→Option Addr) (RL RC:Nat→Nat) (X:Nat→Nat→Nat) (hN:N≤9223372036854775807) (w:World) (V:Rfs w A N RA RL RC X) :
   Calls Try.prog 31 #[.slice A N C] w fun e w'=>e=.returned (.bool (fltB N RL X))∧Below w.heap.size w w':=by
 go_enter Try.func31,Try.ntmps31
 go_wp2_with fail
 go_loopg [7] N (fun G s7 wx=>Below w.heap.size w wx∧∃r:Nat,r+G=N∧s7=.int .i64 (r:Int)∧Hid (∀j,j<r→rowFB RL X j=true))
 case atStart=>exact⟨Below.refl _ _,0,by omega,rfl,fun j hj=>absurd hj (by omega)⟩
 case round =>
   obtain⟨HB,r,hr,rfl,hall⟩:=hrel
   by_cases cr:r=N
   · subst cr
     have e:fltB r RL X=dimB r:=by unfold fltB;rw [all_upto.2 hall,Bool.true_and]
     go_wp2_with (go_at_call 45;refine (isDim_w r hN _).mono ?_;rintro _ _ ⟨rfl,rfl⟩)
     go_ret
     exact⟨(congrArg (fun q=>Ending.returned (Value.bool q)) e).symm,HB⟩
   · have hlt:(r:Int)<(N:Int):=by omega
     have hlt0:(0:Int)<(N:Int):=by omega
     obtain⟨b,o,hA,hb,x0,l0,I⟩:=(V.keep HB) r (by omega)
     obtain⟨b',o',hA',hb',x1,l1, -⟩:=(V.keep HB) 0 (by omega)
     have hE:b'=b∧o'=o:=by
       rw [hA] at hA'
       simp only [Option.some.injEq,Addr.mk.injEq] at hA'
       exact⟨hA'.1.symm,hA'.2.1.symm⟩
     obtain⟨rfl,rfl⟩:=hE
     rw [Nat.add_zero] at x1
     clear hA' hb'
     have c:=fun w2 (hw:Below wr.heap.size wr w2)=>allFin_w (RA r) (RL r) (RC r) (X r) l0 w2 (I.keep hw)
     replace c:=c wr (Below.refl _ _)
     have d:=isDim_w (RL r) l0
     have ne:((RL r:Int) != (RL 0:Int))=!decide (RL r=RL 0):=by
       by_cases q:RL r=RL 0
       · simp [q]
       · rw [decide_eq_false q];simp;omega
     have hp:Hid (rowFB RL X r=(decide (RL r=RL 0)&&dimB (RL r)&&finsB (RL r) (X r))):=rfl
     have hno:Hid (rowFB RL X r=false→fltB N RL X=false):=fun h=>by unfold fltB;rw [all_not (i:=r) (by omega) h,Bool.false_and]
     generalize decide (RL r=RL 0)=p at *
     generalize dimB (RL r)=q at *
     generalize finsB (RL r) (X r)=u at *
     subst hA
     cases p <;> cases q <;> cases u
     all_goals
       go_wp2_with (first
         | (go_at_call 45;with_reducible refine (d _).mono ?_;rintro _ _ ⟨rfl,rfl⟩)
         | (go_at_call 61;with_reducible refine c.mono ?_;rintro _ w1 ⟨rfl,hb1⟩;have y1:=keepsC hb1 x1 hb;replace HB:=later HB hb1))
       first
         | (go_ret
            exact⟨(congrArg (fun q=>Ending.returned (Value.bool q)) (hno (by rw [show rowFB RL X r=_ from hp];rfl))).symm,HB⟩)
         | (go_roundg (N-r-1)
            case measure=>omega
            case rel=>exact⟨HB,r+1,by omega,by go_num,fun j hj=>by rcases Nat.lt_or_ge j r with h | h;exact hall j h;rw [show j=r by omega,show rowFB RL X r=_ from hp];rfl⟩)
theorem rowFB_no {RL:Nat→Nat} {X:Nat→Nat→Nat} {r:Nat} (h:RL r≠RL 0∨RL r=0∨24<RL r∨∃i,i<RL r∧finB (X r i)=false):rowFB RL X r=false:=by
 unfold rowFB
 rcases h with h | h | h | ⟨i,hi,h⟩
 · rw [decide_eq_false h];rfl
 · rw [dim_no (.inl h),Bool.and_false];rfl
 · rw [dim_no (.inr h),Bool.and_false];rfl
 · rw [show finsB (RL r) (X r)=false from all_not hi h,Bool.and_false]
set_option maxHeartbeats 4000000 in
theorem rfloats_w (A:Option Addr) (N C:Nat) (RA:Nat→Option Addr) (RL RC:Nat→Nat) (X:Nat→Nat→Nat) (hN:N≤9223372036854775807) (w:World) (V:Rfs w A N RA RL RC X) :
   Calls Try.prog 9 #[.slice A N C] w fun e w'=>e=.returned (.bool (fltB N RL X))∧Below w.heap.size w w':=by
 go_enter Try.func9,Try.ntmps9
 go_wp2_with fail
 go_loopg [9] N (fun G s7 wx=>Below w.heap.size w wx∧∃r:Nat,r+G=N∧s7=.int .i64 (r:Int)∧Hid (∀j,j<r→rowFB RL X j=true))
 case atStart=>exact⟨Below.refl _ _,0,by omega,rfl,fun j hj=>absurd hj (by omega)⟩
 case round =>
   obtain⟨HB,r,hr,rfl,hall⟩:=hrel
   by_cases cr:r=N
   · subst cr
     have e:Hid (fltB r RL X=dimB r):=show fltB r RL X=dimB r by unfold fltB;rw [all_upto.2 hall,Bool.true_and]
     by_cases c1:1≤r
     · by_cases c2:r≤24
       · have h1:(1:Int)≤(r:Int):=by omega
         have h2:(r:Int)≤24:=by omega
         go_wp2_with fail
         go_ret
         exact⟨(congrArg (fun q=>Ending.returned (Value.bool q)) ((show fltB r RL X=dimB r from e).trans (dim_yes c1 c2))).symm,HB⟩
       · have h1:(1:Int)≤(r:Int):=by omega
         have h2:¬(r:Int)≤24:=by omega
         go_wp2_with fail
         go_ret
         exact⟨(congrArg (fun q=>Ending.returned (Value.bool q)) ((show fltB r RL X=dimB r from e).trans (dim_no (show r=0∨24<r by omega)))).symm,HB⟩
     · have h1:¬(1:Int)≤(r:Int):=by omega
       go_wp2_with fail
       go_ret
       exact⟨(congrArg (fun q=>Ending.returned (Value.bool q)) ((show fltB r RL X=dimB r from e).trans (dim_no (show r=0∨24<r by omega)))).symm,HB⟩
   · have hlt:(r:Int)<(N:Int):=by omega
     have hlt0:(0:Int)<(N:Int):=by omega
     obtain⟨b,o,hA,hb,x0,l0,I⟩:=(V.keep HB) r (by omega)
     obtain⟨b',o',hA',hb',x1,l1, -⟩:=(V.keep HB) 0 (by omega)
     have hE:b'=b∧o'=o:=by
       rw [hA] at hA'
       simp only [Option.some.injEq,Addr.mk.injEq] at hA'
       exact⟨hA'.1.symm,hA'.2.1.symm⟩
     obtain⟨rfl,rfl⟩:=hE
     rw [Nat.add_zero] at x1
     clear hA' hb'
     have hno:Hid (rowFB RL X r=false→fltB N RL X=false):=fun h=>by unfold fltB;rw [all_not (i:=r) (by omega) h,Bool.false_and]
     subst hA
     generalize RA r=P at *
     by_cases g1:1≤RL r
     · by_cases g2:RL r≤24
       · by_cases g3:RL r=RL 0
         · have e1:¬(RL r:Int)<1:=by omega
           have e2:¬(24:Int)<(RL r:Int):=by omega
           have e3:((RL r:Int) != (RL 0:Int))=false:=by simp [g3]
           have G3:Hid (RL r=RL 0):=g3
           clear g3
           go_wp2_with fail
           go_loopg [32] (RL r) (fun G s9 wy=>wy=wr∧∃i:Nat,i+G=RL r∧s9=.int .i64 (i:Int)∧Hid (∀j,j<i→finB (X r j)=true))
           case atStart=>exact⟨rfl,0,by omega,rfl,fun j hj=>absurd hj (by omega)⟩
           case round =>
             obtain⟨rfl,i,hi,rfl,hin⟩:=hrel
             by_cases ci:i=RL r
             · have ci':¬(i:Int)<(RL r:Int):=by omega
               go_wp2_with fail
               go_roundg (N-r-1)
               case measure=>omega
               case rel =>
                 refine⟨HB,r+1,by omega,by go_num,fun j hj=>?_⟩
                 rcases Nat.lt_or_ge j r with h | h
                 · exact hall j h
                 · rw [show j=r by omega]
                   unfold rowFB
                   rw [decide_eq_true (show RL r=RL 0 from G3),dim_yes g1 g2,show finsB (RL r) (X r)=true from all_upto.2 fun j hj=>hin j (by omega)]
                   rfl
             · have hlti:(i:Int)<(RL r:Int):=by omega
               obtain⟨b2,o2,hA2,hb2,y0,m0⟩:=I i (by omega)
               have c:=rfin_w (X r i) m0
               subst hA2
               have hcase:finB (X r i)=true∨finB (X r i)=false:=by cases finB (X r i) <;> simp
               rcases hcase with hq | hq
               · rw [hq] at c
                 go_wp2_with (go_at_call 30;refine (c _).mono ?_;rintro _ _ ⟨rfl,rfl⟩)
                 go_roundg (RL r-i-1)
                 case measure=>omega
                 case rel=>exact⟨rfl,i+1,by omega,by go_num,fun j hj=>by rcases Nat.lt_or_ge j i with h | h;exact hin j h;rw [show j=i by omega];exact hq⟩
               · rw [hq] at c
                 go_wp2_with (go_at_call 30;refine (c _).mono ?_;rintro _ _ ⟨rfl,rfl⟩)
                 go_ret
                 exact⟨(congrArg (fun q=>Ending.returned (Value.bool q)) (hno (rowFB_no (.inr (.inr (.inr ⟨i,by omega,hq⟩)))))).symm,HB⟩
         · have e1:¬(RL r:Int)<1:=by omega
           have e2:¬(24:Int)<(RL r:Int):=by omega
           have e3:((RL r:Int) != (RL 0:Int))=true:=by simp;omega
           go_wp2_with fail
           go_ret
           exact⟨(congrArg (fun q=>Ending.returned (Value.bool q)) (hno (rowFB_no (.inl g3)))).symm,HB⟩
       · have e1:¬(RL r:Int)<1:=by omega
         have e2:(24:Int)<(RL r:Int):=by omega
         go_wp2_with fail
         go_ret
         exact⟨(congrArg (fun q=>Ending.returned (Value.bool q)) (hno (rowFB_no (.inr (.inr (.inl (by omega))))))).symm,HB⟩
     · have e1:(RL r:Int)<1:=by omega
       go_wp2_with fail
       go_ret
       exact⟨(congrArg (fun q=>Ending.returned (Value.bool q)) (hno (rowFB_no (.inr (.inl (by omega)))))).symm,HB⟩
def oneP (r c:Nat):Nat×Nat:=if r=c then makeP 4607182418800017408 4607182418800017408 else (0,0)
set_option maxHeartbeats 4000000 in
theorem One_good (n:Nat) (h1:1≤n) (h2:n≤24) (w:World):Calls Try.prog 17 #[.int .i64 (n:Int)] w fun e w'=>∃g h,e=.returned (.slice (some ⟨g,0,none⟩) n n)∧Grd w' g n n h oneP∧Below w.heap.size w w':=by
 have c:∀w,Calls Try.prog 45 #[.int .i64 (n:Int)] w fun e w'=>e=.returned (.bool true)∧w=w':=fun w=>by
   rw [←dim_yes h1 h2];exact isDim_w n (by omega) w
 have cg:=fun w=>grid_w n n h2 h2 w
 have cp:=fun w=>point_w 4607182418800017408 (by omega) w
 have hP:Hid (oneP=fun r c=>if r=c then makeP 4607182418800017408 4607182418800017408 else (0,0)):=rfl
 generalize makeP 4607182418800017408 4607182418800017408=P at *
 go_enter Try.func17,Try.ntmps17
 go_wp2_with (first
   | (go_at_call 45;refine (c _).mono ?_;rintro _ _ ⟨rfl,rfl⟩)
   | (go_at_call 35;refine (cg _).mono ?_;rintro _ w1 ⟨g,h,rfl,G0,hg,hh,HB⟩))
 clear c cg
 go_loopg [12] n (fun G s wx=>Below w.heap.size w wx∧∃j:Nat,j+G=n∧s=.int .i64 (j:Int)∧Grd wx g n n h (fun r c=>if r=c∧r<j then P else (0,0)))
 case atStart=>exact⟨HB,0,by omega,rfl,G0.congr fun r _ c _=>by simp⟩
 case round =>
   clear HB G0
   obtain⟨HB,j,hj,rfl,G0⟩:=hrel
   by_cases cj:j=n
   · subst cj
     go_wp2_with fail
     go_ret
     exact⟨g,h,rfl,by rw [show oneP=_ from hP];exact G0.congr fun r hr c hc=>by simp [hr],HB⟩
   · have hltj:(j:Int)<(n:Int):=by omega
     obtain⟨g0, -⟩:=G0.out.2 j (by omega)
     have gl:=G0.out.1
     go_upto_region 7 with fail
     have kg0:=fun n:Behind wr=>n.cell g0 gl
     refine tail_behind 6 (by kernel_rfl) (by kernel_rfl) ?_
     simp only [List.take_succ_cons,List.take_zero,List.drop_succ_cons,List.drop_zero]
     repeat (go_big_quiet_step (first
       | (go_at_call 36;with_reducible refine Behind.call (cp _))))
     refine wpQuiet_nil ?_
     rintro _ ⟨q,rfl⟩
     obtain⟨W,hb1⟩:=q
     dsimp only
     clear kg0 g0 gl cp
     replace G0:=G0.keep hb1
     replace HB:=later HB hb1
     clear hb1
     obtain⟨i0,i1,f0,f1⟩:=id ((G0.row j (by omega)).2 j (by omega))
     go_wp2_with fail
     go_roundg (n-j-1)
     case measure=>omega
     case rel =>
       have hhi:=hh j (by omega)
       refine⟨?_,j+1,by omega,by go_num,(G0.set j j _ _ (by omega) (by omega)).congr fun r hr c hc=>?_⟩
       · repeat' (first | (with_reducible exact HB) | (with_reducible refine Below.setCell ?_ ?_ _) | go_size | omega)
       · by_cases e:r=j∧c=j
         · obtain⟨rfl,rfl⟩:=e
           simp
         · rw [if_neg e]
           by_cases q:r=c∧r<j
           · rw [if_pos q,if_pos (by omega)]
           · rw [if_neg q,if_neg (by omega)]
def ptsP (X:Nat→Nat→Nat) (r c:Nat):Nat×Nat:=makeP (X r c) (X r c)
theorem fltB_parts {N:Nat} {RL:Nat→Nat} {X:Nat→Nat→Nat} (h:fltB N RL X=true):1≤N∧N≤24∧(∀r,r<N→RL r=RL 0)∧1≤RL 0∧RL 0≤24:=by
 unfold fltB at h
 rw [Bool.and_eq_true] at h
 obtain⟨a,b⟩:=h
 have b':1≤N∧N≤24:=of_decide_eq_true b
 have q:=all_upto.1 a
 have z:=q 0 (by omega)
 unfold rowFB at z
 simp only [Bool.and_eq_true] at z
 have z':1≤RL 0∧RL 0≤24:=of_decide_eq_true z.1.2
 refine⟨b'.1,b'.2,fun r hr=>?_,z'.1,z'.2⟩
 have y:=q r hr
 unfold rowFB at y
 simp only [Bool.and_eq_true] at y
 exact of_decide_eq_true y.1.1
set_option maxHeartbeats 2000000 in
theorem Points_bad (A:Option Addr) (N C:Nat) (RA:Nat→Option Addr) (RL RC:Nat→Nat) (X:Nat→Nat→Nat) (hN:N≤9223372036854775807) (hf:fltB N RL X=false) (w:World) (V:Rfs w A N RA RL RC X) :
   Calls Try.prog 13 #[.slice A N C] w fun e w'=>e=.returned (.slice none 0 0)∧Below w.heap.size w w':=by
 have c:=floatsMay_w A N C RA RL RC X hN w V
 rw [hf] at c
 go_enter Try.func13,Try.ntmps13
 go_wp2_with (go_at_call 31;refine c.mono ?_;rintro _ w1 ⟨rfl,hb1⟩)
 go_ret
 exact⟨rfl,hb1⟩
set_option maxHeartbeats 8000000 in
theorem Points_new (A:Option Addr) (N C:Nat) (RA:Nat→Option Addr) (RL RC:Nat→Nat) (X:Nat→Nat→Nat) (hN:N≤9223372036854775807) (hf:fltB N RL X=true) (w:World) (V:Rfs w A N RA RL RC X) :
   Calls Try.prog 13 #[.slice A N C] w fun e w'=>∃g h,e=.returned (.slice (some ⟨g,0,none⟩) N N)∧Grd w' g N (RL 0) h (ptsP X)∧(∀r,r<N→w.heap.size≤h r)∧Below w.heap.size w w':=by
 have c:=floatsMay_w A N C RA RL RC X hN w V
 rw [hf] at c
 obtain⟨n1,n2,hRL,m1,m2⟩:=fltB_parts hf
 obtain⟨b,o,hA,hb,x0, -, -⟩:=V 0 (by omega)
 rw [Nat.add_zero] at x0
 have HR:Hid (∀r,r<N→RL r=RL 0):=hRL
 clear hf hRL
 obtain⟨L,hL⟩:∃L,L=RL 0:=⟨_,rfl⟩
 have HR':Hid (∀r,r<N→RL r=L):=fun r hr=>(HR r hr).trans hL.symm
 rw [←hL] at m1 m2 x0 ⊢
 clear hL HR
 have cg:=fun w=>grid_w N L n2 m2 w
 have hlt0:(0:Int)<(N:Int):=by omega
 subst hA
 go_enter Try.func13,Try.ntmps13
 go_wp2_with (first
   | (go_at_call 31;refine c.mono ?_;rintro _ w1 ⟨rfl,HB⟩;replace x0:=keepsC HB x0 hb)
   | (go_at_call 35;refine (cg _).mono ?_;rintro _ w2 ⟨g,h,rfl,G0,hg,hh,hb1⟩))
 replace hg:w.heap.size≤g:=Nat.le_trans HB.size hg
 replace hh:∀r,r<N→w.heap.size≤h r:=fun r hr=>Nat.le_trans HB.size (hh r hr)
 replace HB:=later HB hb1
 clear c cg hb1 x0
 go_loopg [20] N (fun G s20 wx=>Below w.heap.size w wx∧∃i:Nat,i+G=N∧s20=.int .i64 (i:Int)∧Grd wx g N L h (fun r c=>if r<i then ptsP X r c else (0,0)))
 case atStart=>exact⟨HB,0,by omega,rfl,G0.congr fun r _ c _=>by simp⟩
 case round =>
   clear HB G0
   obtain⟨HB,i,hi,rfl,G0⟩:=hrel
   by_cases ci:i=N
   · subst ci
     go_wp2_with fail
     go_ret
     exact⟨g,h,rfl,G0.congr fun r hr c hc=>by simp [hr],hh,HB⟩
   · have hlti:(i:Int)<(N:Int):=by omega
     obtain⟨b',o',hA,hb',y0, -,I⟩:=V i (by omega)
     simp only [Option.some.injEq,Addr.mk.injEq,and_true] at hA
     obtain⟨rfl,rfl⟩:=hA
     rw [HR' i (by omega)] at y0 I
     replace y0:=keepsC HB y0 hb'
     generalize RA i=P at *
     go_wp2_with fail
     go_loopg [27] L (fun G s27 wy=>Below w.heap.size w wy∧∃j:Nat,j+G=L∧s27=.int .i64 (j:Int)∧Grd wy g N L h (fun r c=>if r<i∨(r=i∧c<j) then ptsP X r c else (0,0)))
     case atStart=>exact⟨HB,0,by omega,rfl,G0.congr fun r _ c _=>by simp⟩
     case round =>
       clear HB G0 y0
       obtain⟨HB,j,hj,rfl,G0⟩:=hrel
       by_cases cj:j=L
       · subst cj
         go_wp2_with fail
         go_roundg (N-i-1)
         case measure=>omega
         case rel =>
           refine⟨HB,i+1,by omega,by go_num,G0.congr fun r hr c hc=>?_⟩
           by_cases q:r<i+1
           · simp only [q,show r<i∨r=i∧c<j by omega,if_true]
           · simp only [q,show ¬(r<i∨r=i∧c<j) by omega,if_false]
       · have hltj:(j:Int)<(L:Int):=by omega
         obtain⟨b2,o2,hA2,hb2,z0,k0⟩:=(I.keep HB) j (by omega)
         have cp:∀w,Calls Try.prog 36 #[.float .f64 (X i j)] w fun e w'=>e=.returned (.agg #[.float .f64 (ptsP X i j).1,.float .f64 (ptsP X i j).2])∧Below w.heap.size w w':=fun w=>point_w _ k0 w
         obtain⟨g0, -⟩:=G0.out.2 i (by omega)
         have gl:=G0.out.1
         subst hA2
         go_upto_region 10 with fail
         have kg0:=fun n:Behind wr=>n.cell g0 gl
         refine tail_behind 7 (by kernel_rfl) (by kernel_rfl) ?_
         simp only [List.take_succ_cons,List.take_zero,List.drop_succ_cons,List.drop_zero]
         repeat (go_big_quiet_step (first
           | (go_at_call 36;with_reducible refine Behind.call (cp _))))
         refine wpQuiet_nil ?_
         rintro _ ⟨q,rfl⟩
         obtain⟨W,hb1⟩:=q
         dsimp only
         clear kg0 g0 gl cp z0
         replace G0:=G0.keep hb1
         replace HB:=later HB hb1
         clear hb1
         obtain⟨i0,i1,f0,f1⟩:=id ((G0.row i (by omega)).2 j (by omega))
         go_wp2_with fail
         go_roundg (L-j-1)
         case measure=>omega
         case rel =>
           have hhi:=hh i (by omega)
           refine⟨?_,j+1,by omega,by go_num,(G0.set i j _ _ (by omega) (by omega)).congr fun r hr c hc=>?_⟩
           · repeat' (first | (with_reducible exact HB) | (with_reducible refine Below.setCell ?_ ?_ _) | go_size | omega)
           · by_cases e:r=i∧c=j
             · obtain⟨rfl,rfl⟩:=e
               simp
             · rw [if_neg e]
               by_cases q:r<i∨r=i∧c<j
               · rw [if_pos q,if_pos (by omega)]
               · rw [if_neg q,if_neg (by omega)]
theorem Points_good (A:Option Addr) (N C:Nat) (RA:Nat→Option Addr) (RL RC:Nat→Nat) (X:Nat→Nat→Nat) (hN:N≤9223372036854775807) (hf:fltB N RL X=true) (w:World) (V:Rfs w A N RA RL RC X) :
   Calls Try.prog 13 #[.slice A N C] w fun e w'=>∃g h,e=.returned (.slice (some ⟨g,0,none⟩) N N)∧Grd w' g N (RL 0) h (ptsP X)∧Below w.heap.size w w' :=
 (Points_new A N C RA RL RC X hN hf w V).mono fun _ _ ⟨g,h,a,b,_,d⟩=>⟨g,h,a,b,d⟩
end Go.Proofs.Ytfdomcnaaadedaa
