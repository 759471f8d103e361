/- The walks of the reference's wider and Mul of intervals, of its amounts and of its square; IvalProducts' walk. Quotients of intervals: what the program's Div answers, word for word, and what the reference's Div, as a function, is: the same. The reference's products, amounts and even powers of intervals answer as the program's; IvalProducts' walk. Slices of intervals, and slices of those, as they lie in memory; what vectorMayBe, Vector and isDimension answer. Matrices of intervals: may they be? Sums of products of intervals: the program's and the reference's. -/
import Derived.Test.YtlabmpngbcnhpaaGreatZi21
import Derived.Test.YtlabmpngbcnhpaaGreatZi17
import Derived.Test.YtlabmpngbcnhpaaGreatZi20
import Derived.Test.YtlabmpngbcnhpaaGreatZi16
import Derived.Deep.LoopGhost
namespace Go.Proofs.YtlabmpngbcnhpaaGreat
open Go.ChangeShapes Go.WideShapes Go.ChangeAt Go.RowKit
set_option maxHeartbeats 1000000 in
theorem rwider_core (u v l h:Nat) (b1 b2:Bool) (o1:(FloatKind.f64.format.order l u==some .lt)=b1) (o2:(FloatKind.f64.format.order h v==some .gt)=b2) (r1 r2:Nat) (e1:r1=if b1 then l else u) (e2:r2=if b2 then h else v) (w:World) :
   Calls Tryz.prog 99 #[.agg #[.float .f64 u,.float .f64 v],.float .f64 l,.float .f64 h] w fun e w'=>e=.returned (.agg #[.float .f64 r1,.float .f64 r2])∧Below w.heap.size w w':=by
 have ne1:w.heap.size+1≠w.heap.size:=by omega
 have ne2:w.heap.size≠w.heap.size+1:=by omega
 cases b1 <;> cases b2
 all_goals
   simp only [if_true,Bool.false_eq_true,if_false] at e1 e2
   subst e1 e2
   go_enter Tryz.func99,Tryz.ntmps99
   go_wp2_with fail
   refine bodyPost_ret (v:=.agg #[.float .f64 r1,.float .f64 r2]) (by simp [results,Tryz.results99,go_sem, *]) rfl ⟨rfl,by go_grown⟩
theorem rwider_w (u v l h:Nat) (h1:u<18446744073709551616) (h2:v<18446744073709551616) (h3:l<18446744073709551616) (h4:h<18446744073709551616) (w:World) :
   Calls Tryz.prog 99 #[.agg #[.float .f64 u,.float .f64 v],.float .f64 l,.float .f64 h] w fun e w'=>e=.returned (.agg #[.float .f64 (out1 u l),.float .f64 (out2 v h)])∧Below w.heap.size w w' :=
 rwider_core u v l h _ _ (o_lt h3 h1) (o_gt h4 h2) _ _ rfl rfl w
set_option maxHeartbeats 16000000 in
set_option maxRecDepth 100000 in
theorem rmul_core (xl xh yl yh u0 v0 u1 v1 u2 v2 u3 v3 u4 v4 d1 d2 d3 d4 e1 e2 e3 e4 r1 r2:Nat)
   (c1:∀w,Calls Tryz.prog 35 #[.agg #[.float .f64 xl,.float .f64 xh]] w fun e w'=>e=.returned (.bool false)∧Below w.heap.size w w')
   (c2:∀w,Calls Tryz.prog 35 #[.agg #[.float .f64 yl,.float .f64 yh]] w fun e w'=>e=.returned (.bool false)∧Below w.heap.size w w')
   (c3:∀w,Calls Tryz.prog 70 #[] w fun e w'=>e=.returned (.agg #[.float .f64 u0,.float .f64 v0])∧Below w.heap.size w w')
   (m1:∀w,Calls Tryz.prog 100 #[.float .f64 xl,.float .f64 yl,.int .i64 (-1)] w fun e w'=>e=.returned (.float .f64 d1)∧Below w.heap.size w w')
   (m2:∀w,Calls Tryz.prog 100 #[.float .f64 xl,.float .f64 yl,.int .i64 1] w fun e w'=>e=.returned (.float .f64 e1)∧Below w.heap.size w w')
   (m3:∀w,Calls Tryz.prog 100 #[.float .f64 xl,.float .f64 yh,.int .i64 (-1)] w fun e w'=>e=.returned (.float .f64 d2)∧Below w.heap.size w w')
   (m4:∀w,Calls Tryz.prog 100 #[.float .f64 xl,.float .f64 yh,.int .i64 1] w fun e w'=>e=.returned (.float .f64 e2)∧Below w.heap.size w w')
   (m5:∀w,Calls Tryz.prog 100 #[.float .f64 xh,.float .f64 yl,.int .i64 (-1)] w fun e w'=>e=.returned (.float .f64 d3)∧Below w.heap.size w w')
   (m6:∀w,Calls Tryz.prog 100 #[.float .f64 xh,.float .f64 yl,.int .i64 1] w fun e w'=>e=.returned (.float .f64 e3)∧Below w.heap.size w w')
   (m7:∀w,Calls Tryz.prog 100 #[.float .f64 xh,.float .f64 yh,.int .i64 (-1)] w fun e w'=>e=.returned (.float .f64 d4)∧Below w.heap.size w w')
   (m8:∀w,Calls Tryz.prog 100 #[.float .f64 xh,.float .f64 yh,.int .i64 1] w fun e w'=>e=.returned (.float .f64 e4)∧Below w.heap.size w w')
   (w1:∀w,Calls Tryz.prog 99 #[.agg #[.float .f64 u0,.float .f64 v0],.float .f64 d1,.float .f64 e1] w fun e w'=>e=.returned (.agg #[.float .f64 u1,.float .f64 v1])∧Below w.heap.size w w')
   (w2:∀w,Calls Tryz.prog 99 #[.agg #[.float .f64 u1,.float .f64 v1],.float .f64 d2,.float .f64 e2] w fun e w'=>e=.returned (.agg #[.float .f64 u2,.float .f64 v2])∧Below w.heap.size w w')
   (w3:∀w,Calls Tryz.prog 99 #[.agg #[.float .f64 u2,.float .f64 v2],.float .f64 d3,.float .f64 e3] w fun e w'=>e=.returned (.agg #[.float .f64 u3,.float .f64 v3])∧Below w.heap.size w w')
   (w4:∀w,Calls Tryz.prog 99 #[.agg #[.float .f64 u3,.float .f64 v3],.float .f64 d4,.float .f64 e4] w fun e w'=>e=.returned (.agg #[.float .f64 u4,.float .f64 v4])∧Below w.heap.size w w')
   (ce:∀w,Calls Tryz.prog 97 #[.float .f64 u4,.float .f64 v4] w fun e w'=>e=.returned (.agg #[.float .f64 r1,.float .f64 r2])∧Below w.heap.size w w') (w:World) :
   Calls Tryz.prog 68 #[.agg #[.float .f64 xl,.float .f64 xh],.agg #[.float .f64 yl,.float .f64 yh]] w fun e w'=>e=.returned (.agg #[.float .f64 r1,.float .f64 r2])∧Below w.heap.size w w':=by
 obtain⟨X,Y,R,HB⟩:=enter2 w (.float .f64 xl) (.float .f64 xh) (.float .f64 yl) (.float .f64 yh) 36
 have ne1:w.heap.size+1+1≠w.heap.size:=by omega
 have ne2:w.heap.size≠w.heap.size+1+1:=by omega
 go_enter Tryz.func68,Tryz.ntmps68
 go_wp2_with fail
 generalize ((w.alloc (.cells #[.float .f64 xl,.float .f64 xh] 36)).alloc (.cells #[.float .f64 yl,.float .f64 yh] 36)).alloc (.cells #[.float .f64 0,.float .f64 0] 36)=V0 at *
 obtain⟨x0,x1,x2,x3,x4⟩:=id X
 obtain⟨y0,y1,y2,y3,y4⟩:=id Y
 go_upto_region 4 with (first
   | (go_at_call_of 35 (Value.agg #[.float .f64 xl,.float .f64 xh]);refine (c1 _).mono ?_;rintro _ wa ⟨rfl,hb1⟩;replace X:=X.keep hb1;replace Y:=Y.keep hb1;replace R:=R.keep hb1;replace HB:=later HB hb1;clear hb1 x0 x1 x2 x3 x4 y0 y1 y2 y3 y4
      obtain⟨x0,x1,x2,x3,x4⟩:=id X
      obtain⟨y0,y1,y2,y3,y4⟩:=id Y)
   | (go_at_call_of 35 (Value.agg #[.float .f64 yl,.float .f64 yh]);refine (c2 _).mono ?_;rintro _ wa ⟨rfl,hb1⟩;replace X:=X.keep hb1;replace Y:=Y.keep hb1;replace R:=R.keep hb1;replace HB:=later HB hb1;clear hb1 x0 x1 x2 x3 x4 y0 y1 y2 y3 y4
      obtain⟨x0,x1,x2,x3,x4⟩:=id X
      obtain⟨y0,y1,y2,y3,y4⟩:=id Y)
   | (go_at_call 70;refine (c3 _).mono ?_;rintro _ wb ⟨rfl,hb1⟩;replace X:=X.keep hb1;replace Y:=Y.keep hb1;replace R:=R.keep hb1;replace HB:=later HB hb1;clear hb1 x0 x1 x2 x3 x4 y0 y1 y2 y3 y4
      obtain⟨x0,x1,x2,x3,x4⟩:=id X
      obtain⟨y0,y1,y2,y3,y4⟩:=id Y))
 have lt0:w.heap.size+1+1<wb.heap.size:=R.2.2.2.2
 have O:=has2_new wb (.float .f64 u0) (.float .f64 v0) 36
 replace X:=X.alloc (.cells #[.float .f64 u0,.float .f64 v0] 36)
 replace Y:=Y.alloc (.cells #[.float .f64 u0,.float .f64 v0] 36)
 replace R:=R.alloc (.cells #[.float .f64 u0,.float .f64 v0] 36)
 replace HB:=below_alloc HB (.cells #[.float .f64 u0,.float .f64 v0] 36)
 clear x0 x1 x2 x3 x4 y0 y1 y2 y3 y4 c1 c2 c3
 generalize wb.alloc (.cells #[.float .f64 u0,.float .f64 v0] 36)=V1 at *
 generalize wb.heap.size=ob at *
 clear wb
 obtain⟨x0,x1,x2,x3,x4⟩:=id X
 go_wp2_with fail
 have lo1:ob<V1.heap.size:=O.2.2.2.2
 go_loopg [24] 3 (fun g s24 wx=>Below w.heap.size w wx∧Has2 wx (w.heap.size+1) (.float .f64 yl) (.float .f64 yh)∧Has2 wx (w.heap.size+1+1) (.float .f64 0) (.float .f64 0)∧Has2 wx V1.heap.size (.float .f64 xl) (.float .f64 xh) ∧
   ((g=3∧s24=.int .i64 0∧Has2 wx ob (.float .f64 u0) (.float .f64 v0))∨(g=2∧s24=.int .i64 1∧Has2 wx ob (.float .f64 u2) (.float .f64 v2))∨(g=1∧s24=.int .i64 2∧Has2 wx ob (.float .f64 u4) (.float .f64 v4))))
 case atStart=>exact⟨below_alloc HB _,Y.alloc _,R.alloc _,has2_new _ _ _ _,Or.inl ⟨rfl,rfl,O.alloc _⟩⟩
 case round =>
   obtain⟨HC,Y1,R1,A1,hh⟩:=hrel
   clear X Y R HB O x0 x1 x2 x3 x4
   rcases hh with ⟨rfl,rfl,O1⟩ | ⟨rfl,rfl,O1⟩ | ⟨rfl,rfl,O1⟩
   · obtain⟨y0,y1,y2,y3,y4⟩:=id Y1
     obtain⟨a0,a1,a2,a3,a4⟩:=id A1
     go_wp2_with fail
     have l1:V1.heap.size<wr.heap.size:=a4
     replace HC:=below_alloc HC (.cells #[.float .f64 yl,.float .f64 yh] 33)
     replace Y1:=Y1.alloc (.cells #[.float .f64 yl,.float .f64 yh] 33)
     replace R1:=R1.alloc (.cells #[.float .f64 yl,.float .f64 yh] 33)
     replace A1:=A1.alloc (.cells #[.float .f64 yl,.float .f64 yh] 33)
     replace O1:=O1.alloc (.cells #[.float .f64 yl,.float .f64 yh] 33)
     have B1:=has2_new wr (.float .f64 yl) (.float .f64 yh) 33
     clear y0 y1 y2 y3 y4 a0 a1 a2 a3 a4
     generalize wr.alloc (.cells #[.float .f64 yl,.float .f64 yh] 33)=V2 at *
     generalize wr.heap.size=bb at *
     go_loopg [34] 3 (fun g s34 wy=>Below w.heap.size w wy∧Has2 wy (w.heap.size+1) (.float .f64 yl) (.float .f64 yh)∧Has2 wy (w.heap.size+1+1) (.float .f64 0) (.float .f64 0)∧Has2 wy V1.heap.size (.float .f64 xl) (.float .f64 xh)∧Has2 wy bb (.float .f64 yl) (.float .f64 yh) ∧
       ((g=3∧s34=.int .i64 0∧Has2 wy ob (.float .f64 u0) (.float .f64 v0))∨(g=2∧s34=.int .i64 1∧Has2 wy ob (.float .f64 u1) (.float .f64 v1))∨(g=1∧s34=.int .i64 2∧Has2 wy ob (.float .f64 u2) (.float .f64 v2))))
     case atStart=>exact⟨HC,Y1,R1,A1,B1,Or.inl ⟨by first | rfl | trivial,by first | rfl | trivial,O1⟩⟩
     case round =>
     obtain⟨HD,Y2,R2,A2,B2,hh⟩:=hrel
     clear HC Y1 R1 A1 B1 O1
     rcases hh with ⟨rfl,rfl,O2⟩ | ⟨rfl,rfl,O2⟩ | ⟨rfl,rfl,O2⟩
     · obtain⟨b0,b1,b2,b3,b4⟩:=id B2
       go_upto_region 10 with fail
       clear b0 b1 b2 b3 b4
       have ko0:=fun n:Behind _=>Behind.cell n O2.1 O2.2.2.2.2
       have ko1:=fun n:Behind _=>Behind.cell n O2.2.1 O2.2.2.2.2
       refine tail_behind 8 (by kernel_rfl) (by kernel_rfl) ?_
       simp only [List.take_succ_cons,List.take_zero,List.drop_succ_cons,List.drop_zero]
       repeat (go_big_quiet_step (first
         | (go_at_call 100;with_reducible refine Behind.call (m1 _))
         | (go_at_call 100;with_reducible refine Behind.call (m2 _))
         | (go_at_call 99;with_reducible refine Behind.call (w1 _))))
       refine wpQuiet_nil ?_
       rintro _ ⟨n,rfl⟩
       obtain⟨W,hb1⟩:=n
       dsimp only
       clear ko0 ko1
       replace HD:=later HD hb1;replace Y2:=Y2.keep hb1;replace R2:=R2.keep hb1;replace A2:=A2.keep hb1;replace B2:=B2.keep hb1;replace O2:=O2.keep hb1
       clear hb1
       obtain⟨z0,z1,z2,z3,z4⟩:=id O2
       all_goals
         go_wp2_with fail
         go_roundg 2
         case rel =>
           refine⟨?_,Y2.far (by omega) _ _,R2.far (by omega) _ _,A2.far (by omega) _ _,B2.far (by omega) _ _,Or.inr (Or.inl ⟨by first | rfl | trivial,by first | rfl | trivial,O2.put _ _⟩)⟩
           repeat' (first | (with_reducible exact HD) | (with_reducible refine Below.setCell ?_ ?_ _) | go_size | omega)
         case measure=>omega
     · obtain⟨b0,b1,b2,b3,b4⟩:=id B2
       go_upto_region 10 with fail
       clear b0 b1 b2 b3 b4
       have ko0:=fun n:Behind _=>Behind.cell n O2.1 O2.2.2.2.2
       have ko1:=fun n:Behind _=>Behind.cell n O2.2.1 O2.2.2.2.2
       refine tail_behind 8 (by kernel_rfl) (by kernel_rfl) ?_
       simp only [List.take_succ_cons,List.take_zero,List.drop_succ_cons,List.drop_zero]
       repeat (go_big_quiet_step (first
         | (go_at_call 100;with_reducible refine Behind.call (m3 _))
         | (go_at_call 100;with_reducible refine Behind.call (m4 _))
         | (go_at_call 99;with_reducible refine Behind.call (w2 _))))
       refine wpQuiet_nil ?_
       rintro _ ⟨n,rfl⟩
       obtain⟨W,hb1⟩:=n
       dsimp only
       clear ko0 ko1
       replace HD:=later HD hb1;replace Y2:=Y2.keep hb1;replace R2:=R2.keep hb1;replace A2:=A2.keep hb1;replace B2:=B2.keep hb1;replace O2:=O2.keep hb1
       clear hb1
       obtain⟨z0,z1,z2,z3,z4⟩:=id O2
       all_goals
         go_wp2_with fail
         go_roundg 1
         case rel =>
           refine⟨?_,Y2.far (by omega) _ _,R2.far (by omega) _ _,A2.far (by omega) _ _,B2.far (by omega) _ _,Or.inr (Or.inr ⟨by first | rfl | trivial,by first | rfl | trivial,O2.put _ _⟩)⟩
           repeat' (first | (with_reducible exact HD) | (with_reducible refine Below.setCell ?_ ?_ _) | go_size | omega)
         case measure=>omega
     · go_wp2_with fail
       go_roundg 2
       case rel=>exact⟨HD,Y2,R2,A2,Or.inr (Or.inl ⟨by first | rfl | trivial,by first | rfl | trivial,O2⟩)⟩
       case measure=>omega
   · obtain⟨y0,y1,y2,y3,y4⟩:=id Y1
     obtain⟨a0,a1,a2,a3,a4⟩:=id A1
     go_wp2_with fail
     have l1:V1.heap.size<wr.heap.size:=a4
     replace HC:=below_alloc HC (.cells #[.float .f64 yl,.float .f64 yh] 33)
     replace Y1:=Y1.alloc (.cells #[.float .f64 yl,.float .f64 yh] 33)
     replace R1:=R1.alloc (.cells #[.float .f64 yl,.float .f64 yh] 33)
     replace A1:=A1.alloc (.cells #[.float .f64 yl,.float .f64 yh] 33)
     replace O1:=O1.alloc (.cells #[.float .f64 yl,.float .f64 yh] 33)
     have B1:=has2_new wr (.float .f64 yl) (.float .f64 yh) 33
     clear y0 y1 y2 y3 y4 a0 a1 a2 a3 a4
     generalize wr.alloc (.cells #[.float .f64 yl,.float .f64 yh] 33)=V2 at *
     generalize wr.heap.size=bb at *
     go_loopg [34] 3 (fun g s34 wy=>Below w.heap.size w wy∧Has2 wy (w.heap.size+1) (.float .f64 yl) (.float .f64 yh)∧Has2 wy (w.heap.size+1+1) (.float .f64 0) (.float .f64 0)∧Has2 wy V1.heap.size (.float .f64 xl) (.float .f64 xh)∧Has2 wy bb (.float .f64 yl) (.float .f64 yh) ∧
       ((g=3∧s34=.int .i64 0∧Has2 wy ob (.float .f64 u2) (.float .f64 v2))∨(g=2∧s34=.int .i64 1∧Has2 wy ob (.float .f64 u3) (.float .f64 v3))∨(g=1∧s34=.int .i64 2∧Has2 wy ob (.float .f64 u4) (.float .f64 v4))))
     case atStart=>exact⟨HC,Y1,R1,A1,B1,Or.inl ⟨by first | rfl | trivial,by first | rfl | trivial,O1⟩⟩
     case round =>
     obtain⟨HD,Y2,R2,A2,B2,hh⟩:=hrel
     clear HC Y1 R1 A1 B1 O1
     rcases hh with ⟨rfl,rfl,O2⟩ | ⟨rfl,rfl,O2⟩ | ⟨rfl,rfl,O2⟩
     · obtain⟨b0,b1,b2,b3,b4⟩:=id B2
       go_upto_region 10 with fail
       clear b0 b1 b2 b3 b4
       have ko0:=fun n:Behind _=>Behind.cell n O2.1 O2.2.2.2.2
       have ko1:=fun n:Behind _=>Behind.cell n O2.2.1 O2.2.2.2.2
       refine tail_behind 8 (by kernel_rfl) (by kernel_rfl) ?_
       simp only [List.take_succ_cons,List.take_zero,List.drop_succ_cons,List.drop_zero]
       repeat (go_big_quiet_step (first
         | (go_at_call 100;with_reducible refine Behind.call (m5 _))
         | (go_at_call 100;with_reducible refine Behind.call (m6 _))
         | (go_at_call 99;with_reducible refine Behind.call (w3 _))))
       refine wpQuiet_nil ?_
       rintro _ ⟨n,rfl⟩
       obtain⟨W,hb1⟩:=n
       dsimp only
       clear ko0 ko1
       replace HD:=later HD hb1;replace Y2:=Y2.keep hb1;replace R2:=R2.keep hb1;replace A2:=A2.keep hb1;replace B2:=B2.keep hb1;replace O2:=O2.keep hb1
       clear hb1
       obtain⟨z0,z1,z2,z3,z4⟩:=id O2
       all_goals
         go_wp2_with fail
         go_roundg 2
         case rel =>
           refine⟨?_,Y2.far (by omega) _ _,R2.far (by omega) _ _,A2.far (by omega) _ _,B2.far (by omega) _ _,Or.inr (Or.inl ⟨by first | rfl | trivial,by first | rfl | trivial,O2.put _ _⟩)⟩
           repeat' (first | (with_reducible exact HD) | (with_reducible refine Below.setCell ?_ ?_ _) | go_size | omega)
         case measure=>omega
     · obtain⟨b0,b1,b2,b3,b4⟩:=id B2
       go_upto_region 10 with fail
       clear b0 b1 b2 b3 b4
       have ko0:=fun n:Behind _=>Behind.cell n O2.1 O2.2.2.2.2
       have ko1:=fun n:Behind _=>Behind.cell n O2.2.1 O2.2.2.2.2
       refine tail_behind 8 (by kernel_rfl) (by kernel_rfl) ?_
       simp only [List.take_succ_cons,List.take_zero,List.drop_succ_cons,List.drop_zero]
       repeat (go_big_quiet_step (first
         | (go_at_call 100;with_reducible refine Behind.call (m7 _))
         | (go_at_call 100;with_reducible refine Behind.call (m8 _))
         | (go_at_call 99;with_reducible refine Behind.call (w4 _))))
       refine wpQuiet_nil ?_
       rintro _ ⟨n,rfl⟩
       obtain⟨W,hb1⟩:=n
       dsimp only
       clear ko0 ko1
       replace HD:=later HD hb1;replace Y2:=Y2.keep hb1;replace R2:=R2.keep hb1;replace A2:=A2.keep hb1;replace B2:=B2.keep hb1;replace O2:=O2.keep hb1
       clear hb1
       obtain⟨z0,z1,z2,z3,z4⟩:=id O2
       all_goals
         go_wp2_with fail
         go_roundg 1
         case rel =>
           refine⟨?_,Y2.far (by omega) _ _,R2.far (by omega) _ _,A2.far (by omega) _ _,B2.far (by omega) _ _,Or.inr (Or.inr ⟨by first | rfl | trivial,by first | rfl | trivial,O2.put _ _⟩)⟩
           repeat' (first | (with_reducible exact HD) | (with_reducible refine Below.setCell ?_ ?_ _) | go_size | omega)
         case measure=>omega
     · go_wp2_with fail
       go_roundg 1
       case rel=>exact⟨HD,Y2,R2,A2,Or.inr (Or.inr ⟨by first | rfl | trivial,by first | rfl | trivial,O2⟩)⟩
       case measure=>omega
   · obtain⟨o0,o1,o2,o3,o4⟩:=id O1
     go_wp2_with (go_at_call 97;refine (ce _).mono ?_;rintro _ wz ⟨rfl,hb1⟩;replace HC:=later HC hb1;replace R1:=R1.keep hb1;clear hb1;obtain⟨z0,z1,z2,z3,z4⟩:=id R1)
     refine bodyPost_ret (v:=.agg #[.float .f64 r1,.float .f64 r2]) (by simp [results,Tryz.results68,go_sem, *]) rfl ⟨rfl, ?_⟩
     repeat' (first | (with_reducible exact HC) | (with_reducible refine Below.setCell ?_ ?_ _) | go_size)
theorem mirror_some {lo hi:Nat} (hl:lo<18446744073709551616) (hh:hi<18446744073709551616) (S:Some2 lo hi):Some2 (mirrorP (lo,hi)).1 (mirrorP (lo,hi)).2∧key (mirrorP (lo,hi)).1=- key hi∧key (mirrorP (lo,hi)).2=- key lo∧(mirrorP (lo,hi)).1<18446744073709551616∧(mirrorP (lo,hi)).2<18446744073709551616:=by
 obtain⟨a,X⟩:=held_some hl hh S
 obtain⟨N,k1,k2⟩:=held_neg X
 have w:=mirror_words X
 have e1:(mirrorP (lo,hi)).1=pz (negB hi):=by rw [w]
 have e2:(mirrorP (lo,hi)).2=pz (negB lo):=by rw [w]
 refine⟨⟨N.nl,N.nh,by rw [k1,k2];have:=S.le;omega,by rw [k1];have:=S.gt;omega,by rw [k2];have:=S.lt;omega,by rw [e1];exact pz_ne _,by rw [e2];exact pz_ne _⟩,k1,k2,N.hl,N.hh⟩
theorem rmulV_w (a b:Nat) (d:Int) (ha:a<18446744073709551616) (hb:b<18446744073709551616) (na:nanB a=false) (nb:nanB b=false) (w:World) :
   Calls Tryz.prog 100 #[.float .f64 a,.float .f64 b,.int .i64 d] w fun e w'=>e=.returned (.float .f64 (mulV a b d))∧Below w.heap.size w w' :=
 told_calls (mulV_is d na nb) (fun w=>rmul_w a b d ha hb w) w
set_option maxHeartbeats 1000000 in
theorem rmul_none (xl xh yl yh:Nat) (b1 b2:Bool)
   (c1:∀w,Calls Tryz.prog 35 #[.agg #[.float .f64 xl,.float .f64 xh]] w fun e w'=>e=.returned (.bool (!b1))∧Below w.heap.size w w')
   (c2:∀w,Calls Tryz.prog 35 #[.agg #[.float .f64 yl,.float .f64 yh]] w fun e w'=>e=.returned (.bool (!b2))∧Below w.heap.size w w')
   (hb:(b1&&b2)=false) (w:World) :
   Calls Tryz.prog 68 #[.agg #[.float .f64 xl,.float .f64 xh],.agg #[.float .f64 yl,.float .f64 yh]] w fun e w'=>e=.returned (.agg #[.float .f64 (infI 1),.float .f64 (infI (-1))])∧Below w.heap.size w w':=by
 obtain⟨X,Y,R,HB⟩:=enter2 w (.float .f64 xl) (.float .f64 xh) (.float .f64 yl) (.float .f64 yh) 36
 cases b1
 case' true=>cases b2
 case true.true=>cases hb
 all_goals
   simp only [Bool.not_true,Bool.not_false] at c1 c2
   go_enter Tryz.func68,Tryz.ntmps68
   go_wp2_with fail
   generalize ((w.alloc (.cells #[.float .f64 xl,.float .f64 xh] 36)).alloc (.cells #[.float .f64 yl,.float .f64 yh] 36)).alloc (.cells #[.float .f64 0,.float .f64 0] 36)=V0 at *
   obtain⟨x0,x1,x2,x3,x4⟩:=id X
   obtain⟨y0,y1,y2,y3,y4⟩:=id Y
   obtain⟨r0,r1,r2,r3,r4⟩:=id R
   go_wp2_with (first
     | (go_at_call_of 35 (Value.agg #[.float .f64 xl,.float .f64 xh]);refine (c1 _).mono ?_;rintro _ w1 ⟨rfl,hb1⟩;replace X:=X.keep hb1;replace Y:=Y.keep hb1;replace R:=R.keep hb1;replace HB:=later HB hb1;clear hb1 x0 x1 x2 x3 x4 y0 y1 y2 y3 y4 r0 r1 r2 r3 r4
        obtain⟨x0,x1,x2,x3,x4⟩:=id X
        obtain⟨y0,y1,y2,y3,y4⟩:=id Y
        obtain⟨r0,r1,r2,r3,r4⟩:=id R)
     | (go_at_call_of 35 (Value.agg #[.float .f64 yl,.float .f64 yh]);refine (c2 _).mono ?_;rintro _ w1 ⟨rfl,hb1⟩;replace X:=X.keep hb1;replace Y:=Y.keep hb1;replace R:=R.keep hb1;replace HB:=later HB hb1;clear hb1 x0 x1 x2 x3 x4 y0 y1 y2 y3 y4 r0 r1 r2 r3 r4
        obtain⟨x0,x1,x2,x3,x4⟩:=id X
        obtain⟨y0,y1,y2,y3,y4⟩:=id Y
        obtain⟨r0,r1,r2,r3,r4⟩:=id R)
     | (go_at_call 70;refine (rempty_w _).mono ?_;rintro _ w1 ⟨rfl,hb1⟩;replace X:=X.keep hb1;replace Y:=Y.keep hb1;replace R:=R.keep hb1;replace HB:=later HB hb1;clear hb1 x0 x1 x2 x3 x4 y0 y1 y2 y3 y4 r0 r1 r2 r3 r4
        obtain⟨x0,x1,x2,x3,x4⟩:=id X
        obtain⟨y0,y1,y2,y3,y4⟩:=id Y
        obtain⟨r0,r1,r2,r3,r4⟩:=id R))
   refine bodyPost_ret (v:=.agg #[.float .f64 (infI 1),.float .f64 (infI (-1))]) (by simp [results,Tryz.results68,go_sem, *]) rfl ⟨rfl, ?_⟩
   repeat' (first | (with_reducible exact HB) | (with_reducible refine Below.setCell ?_ ?_ _) | go_size)
def mulP (xl xh yl yh:Nat):Nat×Nat:=if hsB xl xh&&hsB yl yh then rmulP xl xh yl yh else (infI 1,infI (-1))
theorem mul_both {xl xh yl yh:Nat} (h1:xl<18446744073709551616) (h2:xh<18446744073709551616) (h3:yl<18446744073709551616) (h4:yh<18446744073709551616) (S:Some2 xl xh) (T:Some2 yl yh) :
   (∀w,Calls Tryz.prog 78 #[.agg #[.float .f64 xl,.float .f64 xh],.agg #[.float .f64 yl,.float .f64 yh]] w fun e w'=>e=.returned (.agg #[.float .f64 (rmulP xl xh yl yh).1,.float .f64 (rmulP xl xh yl yh).2])∧Below w.heap.size w w')∧(rmulP xl xh yl yh).1<18446744073709551616∧(rmulP xl xh yl yh).2<18446744073709551616:=by
 obtain⟨a,X⟩:=held_some h1 h2 S
 obtain⟨b,Y⟩:=held_some h3 h4 T
 obtain⟨m1,m2,c,Z,l1,l2,k1,k2⟩:=mul_ends X Y
 rw [rmul_is S.nl S.nh T.nl T.nh Z k1 k2]
 exact⟨c,l1,l2⟩
theorem mulP_lt {xl xh yl yh:Nat} (h1:xl<18446744073709551616) (h2:xh<18446744073709551616) (h3:yl<18446744073709551616) (h4:yh<18446744073709551616):(mulP xl xh yl yh).1<18446744073709551616∧(mulP xl xh yl yh).2<18446744073709551616:=by
 unfold mulP
 cases hs:hsB xl xh&&hsB yl yh
 · rw [if_neg (by simp)];exact⟨infI_lt 1,infI_lt (-1)⟩
 · rw [if_pos rfl]
   obtain⟨hx,hy⟩:=Bool.and_eq_true_iff.1 hs
   exact (mul_both h1 h2 h3 h4 (hs_iff.1 hx) (hs_iff.1 hy)).2
theorem Mul_w (xl xh yl yh:Nat) (h1:xl<18446744073709551616) (h2:xh<18446744073709551616) (h3:yl<18446744073709551616) (h4:yh<18446744073709551616) (w:World) :
   Calls Tryz.prog 78 #[.agg #[.float .f64 xl,.float .f64 xh],.agg #[.float .f64 yl,.float .f64 yh]] w fun e w'=>e=.returned (.agg #[.float .f64 (mulP xl xh yl yh).1,.float .f64 (mulP xl xh yl yh).2])∧Below w.heap.size w w':=by
 unfold mulP
 cases hs:hsB xl xh&&hsB yl yh
 · rw [if_neg (by simp)]
   exact mul_none xl xh yl yh h1 h2 h3 h4 hs w
 · rw [if_pos rfl]
   obtain⟨hx,hy⟩:=Bool.and_eq_true_iff.1 hs
   exact (mul_both h1 h2 h3 h4 (hs_iff.1 hx) (hs_iff.1 hy)).1 w
theorem rMul_w (xl xh yl yh:Nat) (h1:xl<18446744073709551616) (h2:xh<18446744073709551616) (h3:yl<18446744073709551616) (h4:yh<18446744073709551616) (w:World) :
   Calls Tryz.prog 68 #[.agg #[.float .f64 xl,.float .f64 xh],.agg #[.float .f64 yl,.float .f64 yh]] w fun e w'=>e=.returned (.agg #[.float .f64 (mulP xl xh yl yh).1,.float .f64 (mulP xl xh yl yh).2])∧Below w.heap.size w w':=by
 unfold mulP
 cases hs:hsB xl xh&&hsB yl yh
 · rw [if_neg (by simp)]
   exact rmul_none xl xh yl yh _ _ (fun w=>none_w xl xh h1 h2 w) (fun w=>none_w yl yh h3 h4 w) hs w
 · rw [if_pos rfl]
   obtain⟨hx,hy⟩:=Bool.and_eq_true_iff.1 hs
   have S:=hs_iff.1 hx
   have T:=hs_iff.1 hy
   have c1:=fun w=>none_w xl xh h1 h2 w
   have c2:=fun w=>none_w yl yh h3 h4 w
   rw [hx] at c1
   rw [hy] at c2
   have o1:∀{a b:Nat},a<18446744073709551616→b<18446744073709551616→out1 a b<18446744073709551616:=fun {a b} ha hb=>by unfold out1;split <;> assumption
   have o2:∀{a b:Nat},a<18446744073709551616→b<18446744073709551616→out2 a b<18446744073709551616:=fun {a b} ha hb=>by unfold out2;split <;> assumption
   have i1:=infI_lt 1
   have i2:=infI_lt (-1)
   have d1:=(mulV_facts (-1) S.nl T.nl).2
   have d2:=(mulV_facts (-1) S.nl T.nh).2
   have d3:=(mulV_facts (-1) S.nh T.nl).2
   have d4:=(mulV_facts (-1) S.nh T.nh).2
   have e1:=(mulV_facts 1 S.nl T.nl).2
   have e2:=(mulV_facts 1 S.nl T.nh).2
   have e3:=(mulV_facts 1 S.nh T.nl).2
   have e4:=(mulV_facts 1 S.nh T.nh).2
   unfold rmulP
   have q1:=o1 i1 d1
   have q2:=o1 q1 d2
   have q3:=o1 q2 d3
   have q4:=o1 q3 d4
   have p1:=o2 i2 e1
   have p2:=o2 p1 e2
   have p3:=o2 p2 e3
   have p4:=o2 p3 e4
   have ce:=fun w=>rends_core _ _ _ _ _ _ (rendsP _ _) (o_gt q4 (show 9218868437227405311<18446744073709551616 by omega)) (o_lt p4 (show 18442240474082181119<18446744073709551616 by omega)) rfl rfl (fun w=>rmake_w _ _ (by split <;> omega) (by split <;> omega) w) w
   exact rmul_core xl xh yl yh _ _ _ _ _ _ _ _ _ _ _ _ _ _ _ _ _ _ _ _ c1 c2 (fun w=>rempty_w w) (fun w=>rmulV_w _ _ _ h1 h3 S.nl T.nl w) (fun w=>rmulV_w _ _ _ h1 h3 S.nl T.nl w) (fun w=>rmulV_w _ _ _ h1 h4 S.nl T.nh w) (fun w=>rmulV_w _ _ _ h1 h4 S.nl T.nh w)
     (fun w=>rmulV_w _ _ _ h2 h3 S.nh T.nl w) (fun w=>rmulV_w _ _ _ h2 h3 S.nh T.nl w) (fun w=>rmulV_w _ _ _ h2 h4 S.nh T.nh w) (fun w=>rmulV_w _ _ _ h2 h4 S.nh T.nh w)
     (fun w=>rwider_w _ _ _ _ i1 i2 d1 e1 w) (fun w=>rwider_w _ _ _ _ q1 p1 d2 e2 w) (fun w=>rwider_w _ _ _ _ q2 p2 d3 e3 w) (fun w=>rwider_w _ _ _ _ q3 p3 d4 e4 w) ce w
def Ivs (w:World) (A:Option Addr) (n:Nat) (X:Nat→Nat×Nat):Prop :=
 ∀i,i<n→∃b o,A=some ⟨b,o,none⟩∧b<w.heap.size∧w.cell? ⟨b,o+i*2,none⟩=some (.float .f64 (X i).1)∧w.cell? ⟨b,o+i*2+1,none⟩=some (.float .f64 (X i).2)∧(X i).1<18446744073709551616∧(X i).2<18446744073709551616
theorem Ivs.keep {w w2:World} {A:Option Addr} {n:Nat} {X:Nat→Nat×Nat} (h:Ivs w A n X) (hb:Below w.heap.size w w2):Ivs w2 A n X:=fun i hi=>by
 obtain⟨b,o,e,l,c0,c1,r⟩:=h i hi
 exact⟨b,o,e,Nat.lt_of_lt_of_le l hb.size,keepsC hb c0 l,keepsC hb c1 l,r⟩
def dimB (n:Nat):Bool:=decide (1≤n∧n≤24)
theorem dim_yes {n:Nat} (h1:1≤n) (h2:n≤24):dimB n=true:=decide_eq_true ⟨h1,h2⟩
theorem dim_no {n:Nat} (h:n=0∨24<n):dimB n=false:=decide_eq_false (by omega)
def vecB (n:Nat) (X:Nat→Nat×Nat):Bool:=(List.range n).all (fun i=>rightB (X i).1 (X i).2)&&dimB n
theorem all_upto {p:Nat→Bool} {n:Nat}:(List.range n).all p=true↔∀i,i<n→p i=true:=by
 rw [List.all_eq_true]
 exact⟨fun h i hi=>h i (List.mem_range.2 hi),fun h i hi=>h i (List.mem_range.1 hi)⟩
theorem all_not {p:Nat→Bool} {n i:Nat} (hi:i<n) (h:p i=false):(List.range n).all p=false:=by
 cases c:(List.range n).all p
 · rfl
 · rw [all_upto.1 c i hi] at h;cases h
theorem vecB_all {n:Nat} {X:Nat→Nat×Nat} (h:∀j,j<n→rightB (X j).1 (X j).2=true):vecB n X=dimB n:=by
 unfold vecB
 rw [all_upto.2 h,Bool.true_and]
theorem isDim_w (n:Nat) (hn:n≤9223372036854775807) (w:World):Calls Tryz.prog 51 #[.int .i64 (n:Int)] w fun e w'=>e=.returned (.bool (dimB n))∧w=w':=by
 by_cases c1:1≤n
 · by_cases c2:n≤24
   · have h1:(1:Int)≤(n:Int):=by omega
     have h2:(n:Int)≤24:=by omega
     rw [dim_yes c1 c2]
     go_enter Tryz.func51,Tryz.ntmps51
     go_wp2_with fail
     go_ret
     exact⟨rfl,rfl⟩
   · have h1:(1:Int)≤(n:Int):=by omega
     have h2:¬(n:Int)≤24:=by omega
     rw [dim_no (by omega)]
     go_enter Tryz.func51,Tryz.ntmps51
     go_wp2_with fail
     go_ret
     exact⟨rfl,rfl⟩
 · have h1:¬(1:Int)≤(n:Int):=by omega
   rw [dim_no (by omega)]
   go_enter Tryz.func51,Tryz.ntmps51
   go_wp2_with fail
   go_ret
   exact⟨rfl,rfl⟩
set_option maxHeartbeats 1000000 in
theorem rvec_w (A:Option Addr) (n C:Nat) (X:Nat→Nat×Nat) (hC:n≤9223372036854775807) (w:World) (V:Ivs w A n X) :
   Calls Tryz.prog 26 #[.slice A n C] w fun e w'=>e=.returned (.bool (vecB n X))∧Below w.heap.size w w':=by
 have cr:=fun (i:Nat) (h1:(X i).1<18446744073709551616) (h2:(X i).2<18446744073709551616) w=>refRight_w (X i).1 (X i).2 h1 h2 w
 go_enter Tryz.func26,Tryz.ntmps26
 go_wp2_with fail
 go_loopg [7] n (fun G s7 wx=>Below w.heap.size w wx∧∃i:Nat,i+G=n∧s7=.int .i64 (i:Int)∧Hid (∀j,j<i→rightB (X j).1 (X j).2=true))
 case atStart=>exact⟨Below.refl _ _,0,by omega,rfl,fun j hj=>absurd hj (by omega)⟩
 case round =>
   obtain⟨HB,i,hi,rfl,hall⟩:=hrel
   by_cases ci:i=n
   · subst ci
     by_cases c1:1≤i
     · by_cases c2:i≤24
       · have h1:(1:Int)≤(i:Int):=by omega
         have h2:(i:Int)≤24:=by omega
         go_wp2_with fail
         go_ret
         exact⟨(congrArg (fun q=>Ending.returned (Value.bool q)) ((vecB_all hall).trans (dim_yes c1 c2))).symm,HB⟩
       · have h1:(1:Int)≤(i:Int):=by omega
         have h2:¬(i:Int)≤24:=by omega
         go_wp2_with fail
         go_ret
         exact⟨(congrArg (fun q=>Ending.returned (Value.bool q)) ((vecB_all hall).trans (dim_no (show i=0∨24<i by omega)))).symm,HB⟩
     · have h1:¬(1:Int)≤(i:Int):=by omega
       go_wp2_with fail
       go_ret
       exact⟨(congrArg (fun q=>Ending.returned (Value.bool q)) ((vecB_all hall).trans (dim_no (show i=0∨24<i by omega)))).symm,HB⟩
   · have hlt:(i:Int)<(n:Int):=by omega
     obtain⟨b,o,hA,hb,x0,x1,l0,l1⟩:=(V.keep HB) i (by omega)
     have c:=cr i l0 l1
     have hcase:rightB (X i).1 (X i).2=true∨rightB (X i).1 (X i).2=false:=by cases rightB (X i).1 (X i).2 <;> simp
     rcases hcase with hq | hq
     · rw [hq] at c
       subst hA
       go_wp2_with (go_at_call 61;refine (c _).mono ?_;rintro _ w1 ⟨rfl,hb1⟩;replace HB:=later (below_alloc HB _) hb1)
       go_roundg (n-i-1)
       case measure=>omega
       case rel=>exact⟨HB,i+1,by omega,by go_num,fun j hj=>by rcases Nat.lt_or_ge j i with h | h;exact hall j h;rw [show j=i by omega];exact hq⟩
     · rw [hq] at c
       have e:vecB n X=false:=by
         unfold vecB
         rw [all_not (i:=i) (by omega) hq,Bool.false_and]
       subst hA
       go_wp2_with (go_at_call 61;refine (c _).mono ?_;rintro _ w1 ⟨rfl,hb1⟩;replace HB:=later (below_alloc HB _) hb1)
       go_ret
       exact⟨(congrArg (fun q=>Ending.returned (Value.bool q)) e).symm,HB⟩
def Rws (w:World) (A:Option Addr) (N:Nat) (RA:Nat→Option Addr) (RL RC:Nat→Nat) (X:Nat→Nat→Nat×Nat):Prop :=
 ∀r,r<N→∃b o,A=some ⟨b,o,none⟩∧b<w.heap.size∧w.cell? ⟨b,o+r,none⟩=some (.slice (RA r) (RL r) (RC r))∧RL r≤9223372036854775807∧Ivs w (RA r) (RL r) (X r)
theorem Rws.keep {w w2:World} {A:Option Addr} {N:Nat} {RA:Nat→Option Addr} {RL RC:Nat→Nat} {X:Nat→Nat→Nat×Nat} (h:Rws w A N RA RL RC X) (hb:Below w.heap.size w w2):Rws w2 A N RA RL RC X:=fun r hr=>by
 obtain⟨b,o,e,l,c0,c1,i⟩:=h r hr
 exact⟨b,o,e,Nat.lt_of_lt_of_le l hb.size,keepsC hb c0 l,c1,i.keep hb⟩
def matB (N:Nat) (RL:Nat→Nat) (X:Nat→Nat→Nat×Nat):Bool:=(List.range N).all (fun r=>decide (RL r=RL 0)&&vecB (RL r) (X r))&&dimB N
theorem matB_all {N:Nat} {RL:Nat→Nat} {X:Nat→Nat→Nat×Nat} (h:∀j,j<N→(decide (RL j=RL 0)&&vecB (RL j) (X j))=true):matB N RL X=dimB N:=by
 unfold matB
 rw [all_upto.2 h,Bool.true_and]
set_option maxHeartbeats 2000000 in
theorem rmat_w (A:Option Addr) (N C:Nat) (RA:Nat→Option Addr) (RL RC:Nat→Nat) (X:Nat→Nat→Nat×Nat) (hN:N≤9223372036854775807) (w:World) (V:Rws w A N RA RL RC X) :
   Calls Tryz.prog 6 #[.slice A N C] w fun e w'=>e=.returned (.bool (matB N RL X))∧Below w.heap.size w w':=by
 go_enter Tryz.func6,Tryz.ntmps6
 go_wp2_with fail
 go_loopg [7] N (fun G s7 wx=>Below w.heap.size w wx∧∃r:Nat,r+G=N∧s7=.int .i64 (r:Int)∧Hid (∀j,j<r→(decide (RL j=RL 0)&&vecB (RL j) (X j))=true))
 case atStart=>exact⟨Below.refl _ _,0,by omega,rfl,fun j hj=>absurd hj (by omega)⟩
 case round =>
   obtain⟨HB,r,hr,rfl,hall⟩:=hrel
   by_cases cr:r=N
   · subst cr
     by_cases c1:1≤r
     · by_cases c2:r≤24
       · have h1:(1:Int)≤(r:Int):=by omega
         have h2:(r:Int)≤24:=by omega
         go_wp2_with fail
         go_ret
         exact⟨(congrArg (fun q=>Ending.returned (Value.bool q)) ((matB_all hall).trans (dim_yes c1 c2))).symm,HB⟩
       · have h1:(1:Int)≤(r:Int):=by omega
         have h2:¬(r:Int)≤24:=by omega
         go_wp2_with fail
         go_ret
         exact⟨(congrArg (fun q=>Ending.returned (Value.bool q)) ((matB_all hall).trans (dim_no (show r=0∨24<r by omega)))).symm,HB⟩
     · have h1:¬(1:Int)≤(r:Int):=by omega
       go_wp2_with fail
       go_ret
       exact⟨(congrArg (fun q=>Ending.returned (Value.bool q)) ((matB_all hall).trans (dim_no (show r=0∨24<r by omega)))).symm,HB⟩
   · have hlt:(r:Int)<(N:Int):=by omega
     have hlt0:(0:Int)<(N:Int):=by omega
     obtain⟨b,o,hA,hb,x0,l0,I⟩:=(V.keep HB) r (by omega)
     obtain⟨b',o',hA',hb',x1,l1, -⟩:=(V.keep HB) 0 (by omega)
     have hE:b'=b∧o'=o:=by
       rw [hA] at hA'
       simp only [Option.some.injEq,Addr.mk.injEq] at hA'
       exact⟨hA'.1.symm,hA'.2.1.symm⟩
     obtain⟨rfl,rfl⟩:=hE
     rw [Nat.add_zero] at x1
     clear hA' hb'
     have c:∀w2,Below wr.heap.size wr w2→Calls Tryz.prog 26 #[.slice (RA r) (RL r) (RC r)] w2 fun e w'=>e=.returned (.bool (vecB (RL r) (X r)))∧Below w2.heap.size w2 w':=fun w2 hw=>rvec_w (RA r) (RL r) (RC r) (X r) l0 w2 (I.keep hw)
     replace c:=c wr (Below.refl _ _)
     by_cases ce:RL r=RL 0
     · have ce':((RL r:Int) != (RL 0:Int))=false:=by simp [ce]
       have CE:Hid (RL r=RL 0):=ce
       clear ce
       have hcase:vecB (RL r) (X r)=true∨vecB (RL r) (X r)=false:=by cases vecB (RL r) (X r) <;> simp
       rcases hcase with hq | hq
       · rw [hq] at c
         subst hA
         go_wp2_with (go_at_call 26;refine c.mono ?_;rintro _ w1 ⟨rfl,hb1⟩;have y1:=keepsC hb1 x1 hb;replace HB:=later HB hb1)
         go_roundg (N-r-1)
         case measure=>omega
         case rel=>exact⟨HB,r+1,by omega,by go_num,fun j hj=>by rcases Nat.lt_or_ge j r with h | h;exact hall j h;rw [show j=r by omega,hq,decide_eq_true (show RL r=RL 0 from CE)];rfl⟩
       · rw [hq] at c
         have e:matB N RL X=false:=by
           unfold matB
           rw [all_not (i:=r) (by omega) (by rw [hq,Bool.and_false]),Bool.false_and]
         subst hA
         go_wp2_with (go_at_call 26;refine c.mono ?_;rintro _ w1 ⟨rfl,hb1⟩;have y1:=keepsC hb1 x1 hb;replace HB:=later HB hb1)
         go_ret
         exact⟨(congrArg (fun q=>Ending.returned (Value.bool q)) e).symm,HB⟩
     · have ce':((RL r:Int) != (RL 0:Int))=true:=by simp;omega
       have e:matB N RL X=false:=by
         unfold matB
         rw [all_not (i:=r) (by omega) (by rw [decide_eq_false ce,Bool.false_and]),Bool.false_and]
       generalize vecB (RL r) (X r)=q at *
       subst hA
       cases q
       all_goals
         go_wp2_with (go_at_call 26;refine c.mono ?_;rintro _ w1 ⟨rfl,hb1⟩;have y1:=keepsC hb1 x1 hb;replace HB:=later HB hb1)
         go_ret
         exact⟨(congrArg (fun q=>Ending.returned (Value.bool q)) e).symm,HB⟩
def dotP (X Y:Nat→Nat×Nat):Nat→Nat×Nat
 | 0=>(0,0)
 | k+1=>addP (dotP X Y k).1 (dotP X Y k).2 (mulP (X k).1 (X k).2 (Y k).1 (Y k).2).1 (mulP (X k).1 (X k).2 (Y k).1 (Y k).2).2
theorem dotP_lt {n:Nat} {X Y:Nat→Nat×Nat} (hx:∀i,i<n→(X i).1<18446744073709551616∧(X i).2<18446744073709551616) (hy:∀i,i<n→(Y i).1<18446744073709551616∧(Y i).2<18446744073709551616):(dotP X Y n).1<18446744073709551616∧(dotP X Y n).2<18446744073709551616:=by
 induction n with
 | zero=>exact⟨show 0<18446744073709551616 by omega,show 0<18446744073709551616 by omega⟩
 | succ n ih =>
   have d:=ih (fun i hi=>hx i (by omega)) (fun i hi=>hy i (by omega))
   have a:=hx n (by omega)
   have b:=hy n (by omega)
   have m:=mulP_lt a.1 a.2 b.1 b.2
   exact addP_lt d.1 d.2 m.1 m.2
set_option maxHeartbeats 4000000 in
theorem dot_core (A B:Option Addr) (n m C D:Nat) (X Y P Q:Nat→Nat×Nat) (hn:n≤9223372036854775807) (hm:m≤9223372036854775807) (hnm:n≤m) (w:World) (V:Ivs w A n X) (U:Ivs w B m Y)
   (cz:∀w,Calls Tryz.prog 42 #[.float .f64 0] w fun e w'=>e=.returned (.agg #[.float .f64 (P 0).1,.float .f64 (P 0).2])∧Below w.heap.size w w')
   (cm:∀i,i<n→∀w,Calls Tryz.prog 78 #[.agg #[.float .f64 (X i).1,.float .f64 (X i).2],.agg #[.float .f64 (Y i).1,.float .f64 (Y i).2]] w fun e w'=>e=.returned (.agg #[.float .f64 (Q i).1,.float .f64 (Q i).2])∧Below w.heap.size w w')
   (ca:∀i,i<n→∀w,Calls Tryz.prog 59 #[.agg #[.float .f64 (P i).1,.float .f64 (P i).2],.agg #[.float .f64 (Q i).1,.float .f64 (Q i).2]] w fun e w'=>e=.returned (.agg #[.float .f64 (P (i+1)).1,.float .f64 (P (i+1)).2])∧Below w.heap.size w w') :
   Calls Tryz.prog 53 #[.slice A n C,.slice B m D] w fun e w'=>e=.returned (.agg #[.float .f64 (P n).1,.float .f64 (P n).2])∧Below w.heap.size w w':=by
 have R:Has2 (w.alloc (.cells #[.float .f64 0,.float .f64 0] 36)) w.heap.size (.float .f64 0) (.float .f64 0):=has2_new _ _ _ _
 have HB:Below w.heap.size w (w.alloc (.cells #[.float .f64 0,.float .f64 0] 36)):=below_alloc (Below.refl _ _) _
 go_enter Tryz.func53,Tryz.ntmps53
 go_upto_region 1 with fail
 generalize w.alloc (.cells #[.float .f64 0,.float .f64 0] 36)=V0 at *
 go_upto_region 2 with (go_at_call 42;refine (cz _).mono ?_;rintro _ V1 ⟨rfl,hb1⟩;replace R:=R.keep hb1;replace HB:=later HB hb1;clear hb1)
 have lo:w.heap.size<V1.heap.size:=R.2.2.2.2
 have O:=has2_new V1 (.float .f64 (P 0).1) (.float .f64 (P 0).2) 36
 replace R:=R.alloc (.cells #[.float .f64 (P 0).1,.float .f64 (P 0).2] 36)
 replace HB:=below_alloc HB (.cells #[.float .f64 (P 0).1,.float .f64 (P 0).2] 36)
 generalize V1.alloc (.cells #[.float .f64 (P 0).1,.float .f64 (P 0).2] 36)=V2 at *
 generalize V1.heap.size=ob at *
 clear V1 V0 cz
 go_wp2_with fail
 go_loopg [10] n (fun G s10 wx=>Below w.heap.size w wx∧Has2 wx w.heap.size (.float .f64 0) (.float .f64 0)∧∃i:Nat,i+G=n∧s10=.int .i64 (i:Int)∧Has2 wx ob (.float .f64 (P i).1) (.float .f64 (P i).2))
 case atStart=>exact⟨HB,R,0,by omega,rfl,O⟩
 case round =>
   clear HB R O
   obtain⟨HB,R,i,hi,rfl,O⟩:=hrel
   by_cases ci:i=n
   · subst ci
     obtain⟨z0,z1,z2,z3,z4⟩:=id O
     obtain⟨r0,r1,r2,r3,r4⟩:=id R
     go_wp2_with fail
     refine bodyPost_ret (v:=.agg #[.float .f64 (P i).1,.float .f64 (P i).2]) (by simp [results,Tryz.results53,go_sem, *]) rfl ⟨rfl, ?_⟩
     repeat' (first | (with_reducible exact HB) | (with_reducible refine Below.setCell ?_ ?_ _) | go_size)
   · have hlt:(i:Int)<(n:Int):=by omega
     have hlt2:(i:Int)<(m:Int):=by omega
     obtain⟨b,o,hA,hb,x0,x1, -, -⟩:=(V.keep HB) i (by omega)
     obtain⟨b',o',hB,hb',y0,y1, -, -⟩:=(U.keep HB) i (by omega)
     have c1:=cm i (by omega)
     have c2:=ca i (by omega)
     subst hA hB
     go_upto_region 5 with fail
     have kx0:=fun n:Behind wr=>n.cell x0 hb
     have kx1:=fun n:Behind wr=>n.cell x1 hb
     have ky0:=fun n:Behind wr=>n.cell y0 hb'
     have ky1:=fun n:Behind wr=>n.cell y1 hb'
     have ko0:=fun n:Behind wr=>n.cell O.1 O.2.2.2.2
     have ko1:=fun n:Behind wr=>n.cell O.2.1 O.2.2.2.2
     clear x0 x1 y0 y1
     refine tail_behind 11 (by kernel_rfl) (by kernel_rfl) ?_
     simp only [List.take_succ_cons,List.take_zero,List.drop_succ_cons,List.drop_zero]
     repeat (go_big_quiet_step (first
       | (go_at_call 78;with_reducible refine Behind.call (c1 _))
       | (go_at_call 59;with_reducible refine Behind.call (c2 _))))
     refine wpQuiet_nil ?_
     rintro _ ⟨q,rfl⟩
     obtain⟨W,hb1⟩:=q
     dsimp only
     clear kx0 kx1 ky0 ky1 ko0 ko1
     replace R:=R.keep hb1;replace O:=O.keep hb1;replace HB:=later HB hb1;clear hb1
     obtain⟨z0,z1,z2,z3,z4⟩:=id O
     go_wp2_with fail
     go_roundg (n-i-1)
     case measure=>omega
     case rel =>
       refine⟨?_,R.far (by omega) _ _,i+1,by omega,by go_num,O.put _ _⟩
       repeat' (first | (with_reducible exact HB) | (with_reducible refine Below.setCell ?_ ?_ _) | go_size | omega)
set_option maxHeartbeats 4000000 in
theorem rdot_core (A B:Option Addr) (n m C D:Nat) (X Y P Q:Nat→Nat×Nat) (hn:n≤9223372036854775807) (hm:m≤9223372036854775807) (hnm:n≤m) (w:World) (V:Ivs w A n X) (U:Ivs w B m Y)
   (cz:∀w,Calls Tryz.prog 34 #[.float .f64 0,.float .f64 0] w fun e w'=>e=.returned (.agg #[.float .f64 (P 0).1,.float .f64 (P 0).2])∧Below w.heap.size w w')
   (cm:∀i,i<n→∀w,Calls Tryz.prog 68 #[.agg #[.float .f64 (X i).1,.float .f64 (X i).2],.agg #[.float .f64 (Y i).1,.float .f64 (Y i).2]] w fun e w'=>e=.returned (.agg #[.float .f64 (Q i).1,.float .f64 (Q i).2])∧Below w.heap.size w w')
   (ca:∀i,i<n→∀w,Calls Tryz.prog 67 #[.agg #[.float .f64 (P i).1,.float .f64 (P i).2],.agg #[.float .f64 (Q i).1,.float .f64 (Q i).2]] w fun e w'=>e=.returned (.agg #[.float .f64 (P (i+1)).1,.float .f64 (P (i+1)).2])∧Below w.heap.size w w') :
   Calls Tryz.prog 33 #[.slice A n C,.slice B m D] w fun e w'=>e=.returned (.agg #[.float .f64 (P n).1,.float .f64 (P n).2])∧Below w.heap.size w w':=by
 have R:Has2 (w.alloc (.cells #[.float .f64 0,.float .f64 0] 36)) w.heap.size (.float .f64 0) (.float .f64 0):=has2_new _ _ _ _
 have HB:Below w.heap.size w (w.alloc (.cells #[.float .f64 0,.float .f64 0] 36)):=below_alloc (Below.refl _ _) _
 go_enter Tryz.func33,Tryz.ntmps33
 go_upto_region 1 with fail
 generalize w.alloc (.cells #[.float .f64 0,.float .f64 0] 36)=V0 at *
 go_upto_region 2 with (go_at_call 34;refine (cz _).mono ?_;rintro _ V1 ⟨rfl,hb1⟩;replace R:=R.keep hb1;replace HB:=later HB hb1;clear hb1)
 have lo:w.heap.size<V1.heap.size:=R.2.2.2.2
 have O:=has2_new V1 (.float .f64 (P 0).1) (.float .f64 (P 0).2) 36
 replace R:=R.alloc (.cells #[.float .f64 (P 0).1,.float .f64 (P 0).2] 36)
 replace HB:=below_alloc HB (.cells #[.float .f64 (P 0).1,.float .f64 (P 0).2] 36)
 generalize V1.alloc (.cells #[.float .f64 (P 0).1,.float .f64 (P 0).2] 36)=V2 at *
 generalize V1.heap.size=ob at *
 clear V1 V0 cz
 go_wp2_with fail
 go_loopg [10] n (fun G s10 wx=>Below w.heap.size w wx∧Has2 wx w.heap.size (.float .f64 0) (.float .f64 0)∧∃i:Nat,i+G=n∧s10=.int .i64 (i:Int)∧Has2 wx ob (.float .f64 (P i).1) (.float .f64 (P i).2))
 case atStart=>exact⟨HB,R,0,by omega,rfl,O⟩
 case round =>
   clear HB R O
   obtain⟨HB,R,i,hi,rfl,O⟩:=hrel
   by_cases ci:i=n
   · subst ci
     obtain⟨z0,z1,z2,z3,z4⟩:=id O
     obtain⟨r0,r1,r2,r3,r4⟩:=id R
     go_wp2_with fail
     refine bodyPost_ret (v:=.agg #[.float .f64 (P i).1,.float .f64 (P i).2]) (by simp [results,Tryz.results33,go_sem, *]) rfl ⟨rfl, ?_⟩
     repeat' (first | (with_reducible exact HB) | (with_reducible refine Below.setCell ?_ ?_ _) | go_size)
   · have hlt:(i:Int)<(n:Int):=by omega
     have hlt2:(i:Int)<(m:Int):=by omega
     obtain⟨b,o,hA,hb,x0,x1, -, -⟩:=(V.keep HB) i (by omega)
     obtain⟨b',o',hB,hb',y0,y1, -, -⟩:=(U.keep HB) i (by omega)
     have c1:=cm i (by omega)
     have c2:=ca i (by omega)
     subst hA hB
     go_upto_region 5 with fail
     have kx0:=fun n:Behind wr=>n.cell x0 hb
     have kx1:=fun n:Behind wr=>n.cell x1 hb
     have ky0:=fun n:Behind wr=>n.cell y0 hb'
     have ky1:=fun n:Behind wr=>n.cell y1 hb'
     have ko0:=fun n:Behind wr=>n.cell O.1 O.2.2.2.2
     have ko1:=fun n:Behind wr=>n.cell O.2.1 O.2.2.2.2
     clear x0 x1 y0 y1
     refine tail_behind 11 (by kernel_rfl) (by kernel_rfl) ?_
     simp only [List.take_succ_cons,List.take_zero,List.drop_succ_cons,List.drop_zero]
     repeat (go_big_quiet_step (first
       | (go_at_call 68;with_reducible refine Behind.call (c1 _))
       | (go_at_call 67;with_reducible refine Behind.call (c2 _))))
     refine wpQuiet_nil ?_
     rintro _ ⟨q,rfl⟩
     obtain⟨W,hb1⟩:=q
     dsimp only
     clear kx0 kx1 ky0 ky1 ko0 ko1
     replace R:=R.keep hb1;replace O:=O.keep hb1;replace HB:=later HB hb1;clear hb1
     obtain⟨z0,z1,z2,z3,z4⟩:=id O
     go_wp2_with fail
     go_roundg (n-i-1)
     case measure=>omega
     case rel =>
       refine⟨?_,R.far (by omega) _ _,i+1,by omega,by go_num,O.put _ _⟩
       repeat' (first | (with_reducible exact HB) | (with_reducible refine Below.setCell ?_ ?_ _) | go_size | omega)
theorem zero_make (w:World):Calls Tryz.prog 34 #[.float .f64 0,.float .f64 0] w fun e w'=>e=.returned (.agg #[.float .f64 0,.float .f64 0])∧Below w.heap.size w w':=by
 have h:=rmake_w 0 0 (by omega) (by omega) w
 have e:makeP 0 0=(0,0):=by decide
 rw [e] at h
 exact h
theorem ivs_words {w:World} {A:Option Addr} {n:Nat} {X:Nat→Nat×Nat} (V:Ivs w A n X):∀i,i<n→(X i).1<18446744073709551616∧(X i).2<18446744073709551616:=fun i hi=>by
 obtain⟨b,o,e,l,c0,c1,r⟩:=V i hi
 exact r
theorem dot_w (A B:Option Addr) (n m C D:Nat) (X Y:Nat→Nat×Nat) (hn:n≤9223372036854775807) (hm:m≤9223372036854775807) (hnm:n≤m) (w:World) (V:Ivs w A n X) (U:Ivs w B m Y) :
   Calls Tryz.prog 53 #[.slice A n C,.slice B m D] w fun e w'=>e=.returned (.agg #[.float .f64 (dotP X Y n).1,.float .f64 (dotP X Y n).2])∧Below w.heap.size w w':=by
 have a:=ivs_words V
 have b:=ivs_words U
 exact dot_core A B n m C D X Y (dotP X Y) (fun i=>mulP (X i).1 (X i).2 (Y i).1 (Y i).2) hn hm hnm w V U point0_w (fun i hi w=>Mul_w _ _ _ _ (a i hi).1 (a i hi).2 (b i (by omega)).1 (b i (by omega)).2 w)
   (fun i hi w=>Add_w _ _ _ _ (dotP_lt (n:=i) (fun j hj=>a j (by omega)) (fun j hj=>b j (by omega))).1 (dotP_lt (n:=i) (fun j hj=>a j (by omega)) (fun j hj=>b j (by omega))).2 (mulP_lt (a i hi).1 (a i hi).2 (b i (by omega)).1 (b i (by omega)).2).1 (mulP_lt (a i hi).1 (a i hi).2 (b i (by omega)).1 (b i (by omega)).2).2 w)
theorem rdot_w (A B:Option Addr) (n m C D:Nat) (X Y:Nat→Nat×Nat) (hn:n≤9223372036854775807) (hm:m≤9223372036854775807) (hnm:n≤m) (w:World) (V:Ivs w A n X) (U:Ivs w B m Y) :
   Calls Tryz.prog 33 #[.slice A n C,.slice B m D] w fun e w'=>e=.returned (.agg #[.float .f64 (dotP X Y n).1,.float .f64 (dotP X Y n).2])∧Below w.heap.size w w':=by
 have a:=ivs_words V
 have b:=ivs_words U
 exact rdot_core A B n m C D X Y (dotP X Y) (fun i=>mulP (X i).1 (X i).2 (Y i).1 (Y i).2) hn hm hnm w V U zero_make (fun i hi w=>rMul_w _ _ _ _ (a i hi).1 (a i hi).2 (b i (by omega)).1 (b i (by omega)).2 w)
   (fun i hi w=>rAdd_w _ _ _ _ (dotP_lt (n:=i) (fun j hj=>a j (by omega)) (fun j hj=>b j (by omega))).1 (dotP_lt (n:=i) (fun j hj=>a j (by omega)) (fun j hj=>b j (by omega))).2 (mulP_lt (a i hi).1 (a i hi).2 (b i (by omega)).1 (b i (by omega)).2).1 (mulP_lt (a i hi).1 (a i hi).2 (b i (by omega)).1 (b i (by omega)).2).2 w)
end Go.Proofs.YtlabmpngbcnhpaaGreat
