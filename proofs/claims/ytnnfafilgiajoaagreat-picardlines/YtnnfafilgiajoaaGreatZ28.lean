/- The walks of the reference's wider and Mul of intervals, of its amounts and of its square; IvalProducts' walk. Quotients of intervals: what the program's Div answers, word for word, and what the reference's Div, as a function, is: the same. The reference's products, amounts and even powers of intervals answer as the program's; IvalProducts' walk. -/
import Derived.Test.YtnnfafilgiajoaaGreatZ27
import Derived.Test.YtnnfafilgiajoaaGreatZ19
namespace Go.Proofs.YtnnfafilgiajoaaGreat
open Go.ChangeShapes Go.WideShapes Go.ChangeAt Go.RowKit
set_option maxHeartbeats 1000000 in
theorem rwider_core (u v l h:Nat) (b1 b2:Bool) (o1:(FloatKind.f64.format.order l u==some .lt)=b1) (o2:(FloatKind.f64.format.order h v==some .gt)=b2) (r1 r2:Nat) (e1:r1=if b1 then l else u) (e2:r2=if b2 then h else v) (w:World) :
   Calls Tryz.prog 56 #[.agg #[.float .f64 u,.float .f64 v],.float .f64 l,.float .f64 h] w fun e w'=>e=.returned (.agg #[.float .f64 r1,.float .f64 r2])∧Below w.heap.size w w':=by
 have ne1:w.heap.size+1≠w.heap.size:=by omega
 have ne2:w.heap.size≠w.heap.size+1:=by omega
 cases b1 <;> cases b2
 all_goals
   simp only [if_true,Bool.false_eq_true,if_false] at e1 e2
   subst e1 e2
   go_enter Tryz.func56,Tryz.ntmps56
   go_wp2_with fail
   refine bodyPost_ret (v:=.agg #[.float .f64 r1,.float .f64 r2]) (by simp [results,Tryz.results56,go_sem, *]) rfl ⟨rfl,by go_grown⟩
theorem rwider_w (u v l h:Nat) (h1:u<18446744073709551616) (h2:v<18446744073709551616) (h3:l<18446744073709551616) (h4:h<18446744073709551616) (w:World) :
   Calls Tryz.prog 56 #[.agg #[.float .f64 u,.float .f64 v],.float .f64 l,.float .f64 h] w fun e w'=>e=.returned (.agg #[.float .f64 (out1 u l),.float .f64 (out2 v h)])∧Below w.heap.size w w' :=
 rwider_core u v l h _ _ (o_lt h3 h1) (o_gt h4 h2) _ _ rfl rfl w
set_option maxHeartbeats 16000000 in
set_option maxRecDepth 100000 in
theorem rmul_core (xl xh yl yh u0 v0 u1 v1 u2 v2 u3 v3 u4 v4 d1 d2 d3 d4 e1 e2 e3 e4 r1 r2:Nat)
   (c1:∀w,Calls Tryz.prog 24 #[.agg #[.float .f64 xl,.float .f64 xh]] w fun e w'=>e=.returned (.bool false)∧Below w.heap.size w w')
   (c2:∀w,Calls Tryz.prog 24 #[.agg #[.float .f64 yl,.float .f64 yh]] w fun e w'=>e=.returned (.bool false)∧Below w.heap.size w w')
   (c3:∀w,Calls Tryz.prog 38 #[] w fun e w'=>e=.returned (.agg #[.float .f64 u0,.float .f64 v0])∧Below w.heap.size w w')
   (m1:∀w,Calls Tryz.prog 57 #[.float .f64 xl,.float .f64 yl,.int .i64 (-1)] w fun e w'=>e=.returned (.float .f64 d1)∧Below w.heap.size w w')
   (m2:∀w,Calls Tryz.prog 57 #[.float .f64 xl,.float .f64 yl,.int .i64 1] w fun e w'=>e=.returned (.float .f64 e1)∧Below w.heap.size w w')
   (m3:∀w,Calls Tryz.prog 57 #[.float .f64 xl,.float .f64 yh,.int .i64 (-1)] w fun e w'=>e=.returned (.float .f64 d2)∧Below w.heap.size w w')
   (m4:∀w,Calls Tryz.prog 57 #[.float .f64 xl,.float .f64 yh,.int .i64 1] w fun e w'=>e=.returned (.float .f64 e2)∧Below w.heap.size w w')
   (m5:∀w,Calls Tryz.prog 57 #[.float .f64 xh,.float .f64 yl,.int .i64 (-1)] w fun e w'=>e=.returned (.float .f64 d3)∧Below w.heap.size w w')
   (m6:∀w,Calls Tryz.prog 57 #[.float .f64 xh,.float .f64 yl,.int .i64 1] w fun e w'=>e=.returned (.float .f64 e3)∧Below w.heap.size w w')
   (m7:∀w,Calls Tryz.prog 57 #[.float .f64 xh,.float .f64 yh,.int .i64 (-1)] w fun e w'=>e=.returned (.float .f64 d4)∧Below w.heap.size w w')
   (m8:∀w,Calls Tryz.prog 57 #[.float .f64 xh,.float .f64 yh,.int .i64 1] w fun e w'=>e=.returned (.float .f64 e4)∧Below w.heap.size w w')
   (w1:∀w,Calls Tryz.prog 56 #[.agg #[.float .f64 u0,.float .f64 v0],.float .f64 d1,.float .f64 e1] w fun e w'=>e=.returned (.agg #[.float .f64 u1,.float .f64 v1])∧Below w.heap.size w w')
   (w2:∀w,Calls Tryz.prog 56 #[.agg #[.float .f64 u1,.float .f64 v1],.float .f64 d2,.float .f64 e2] w fun e w'=>e=.returned (.agg #[.float .f64 u2,.float .f64 v2])∧Below w.heap.size w w')
   (w3:∀w,Calls Tryz.prog 56 #[.agg #[.float .f64 u2,.float .f64 v2],.float .f64 d3,.float .f64 e3] w fun e w'=>e=.returned (.agg #[.float .f64 u3,.float .f64 v3])∧Below w.heap.size w w')
   (w4:∀w,Calls Tryz.prog 56 #[.agg #[.float .f64 u3,.float .f64 v3],.float .f64 d4,.float .f64 e4] w fun e w'=>e=.returned (.agg #[.float .f64 u4,.float .f64 v4])∧Below w.heap.size w w')
   (ce:∀w,Calls Tryz.prog 58 #[.float .f64 u4,.float .f64 v4] w fun e w'=>e=.returned (.agg #[.float .f64 r1,.float .f64 r2])∧Below w.heap.size w w') (w:World) :
   Calls Tryz.prog 33 #[.agg #[.float .f64 xl,.float .f64 xh],.agg #[.float .f64 yl,.float .f64 yh]] w fun e w'=>e=.returned (.agg #[.float .f64 r1,.float .f64 r2])∧Below w.heap.size w w':=by
 obtain⟨X,Y,R,HB⟩:=enter2 w (.float .f64 xl) (.float .f64 xh) (.float .f64 yl) (.float .f64 yh) 40
 have ne1:w.heap.size+1+1≠w.heap.size:=by omega
 have ne2:w.heap.size≠w.heap.size+1+1:=by omega
 go_enter Tryz.func33,Tryz.ntmps33
 go_wp2_with fail
 generalize ((w.alloc (.cells #[.float .f64 xl,.float .f64 xh] 40)).alloc (.cells #[.float .f64 yl,.float .f64 yh] 40)).alloc (.cells #[.float .f64 0,.float .f64 0] 40)=V0 at *
 obtain⟨x0,x1,x2,x3,x4⟩:=id X
 obtain⟨y0,y1,y2,y3,y4⟩:=id Y
 go_upto_region 4 with (first
   | (go_at_call_of 24 (Value.agg #[.float .f64 xl,.float .f64 xh]);refine (c1 _).mono ?_;rintro _ wa ⟨rfl,hb1⟩;replace X:=X.keep hb1;replace Y:=Y.keep hb1;replace R:=R.keep hb1;replace HB:=later HB hb1;clear hb1 x0 x1 x2 x3 x4 y0 y1 y2 y3 y4
      obtain⟨x0,x1,x2,x3,x4⟩:=id X
      obtain⟨y0,y1,y2,y3,y4⟩:=id Y)
   | (go_at_call_of 24 (Value.agg #[.float .f64 yl,.float .f64 yh]);refine (c2 _).mono ?_;rintro _ wa ⟨rfl,hb1⟩;replace X:=X.keep hb1;replace Y:=Y.keep hb1;replace R:=R.keep hb1;replace HB:=later HB hb1;clear hb1 x0 x1 x2 x3 x4 y0 y1 y2 y3 y4
      obtain⟨x0,x1,x2,x3,x4⟩:=id X
      obtain⟨y0,y1,y2,y3,y4⟩:=id Y)
   | (go_at_call 38;refine (c3 _).mono ?_;rintro _ wb ⟨rfl,hb1⟩;replace X:=X.keep hb1;replace Y:=Y.keep hb1;replace R:=R.keep hb1;replace HB:=later HB hb1;clear hb1 x0 x1 x2 x3 x4 y0 y1 y2 y3 y4
      obtain⟨x0,x1,x2,x3,x4⟩:=id X
      obtain⟨y0,y1,y2,y3,y4⟩:=id Y))
 have lt0:w.heap.size+1+1<wb.heap.size:=R.2.2.2.2
 have O:=has2_new wb (.float .f64 u0) (.float .f64 v0) 40
 replace X:=X.alloc (.cells #[.float .f64 u0,.float .f64 v0] 40)
 replace Y:=Y.alloc (.cells #[.float .f64 u0,.float .f64 v0] 40)
 replace R:=R.alloc (.cells #[.float .f64 u0,.float .f64 v0] 40)
 replace HB:=below_alloc HB (.cells #[.float .f64 u0,.float .f64 v0] 40)
 clear x0 x1 x2 x3 x4 y0 y1 y2 y3 y4 c1 c2 c3
 generalize wb.alloc (.cells #[.float .f64 u0,.float .f64 v0] 40)=V1 at *
 generalize wb.heap.size=ob at *
 clear wb
 obtain⟨x0,x1,x2,x3,x4⟩:=id X
 go_wp2_with fail
 have lo1:ob<V1.heap.size:=O.2.2.2.2
 go_loopg [24] 3 (fun g s24 wx=>Below w.heap.size w wx∧Has2 wx (w.heap.size+1) (.float .f64 yl) (.float .f64 yh)∧Has2 wx (w.heap.size+1+1) (.float .f64 0) (.float .f64 0)∧Has2 wx V1.heap.size (.float .f64 xl) (.float .f64 xh) ∧
   ((g=3∧s24=.int .i64 0∧Has2 wx ob (.float .f64 u0) (.float .f64 v0))∨(g=2∧s24=.int .i64 1∧Has2 wx ob (.float .f64 u2) (.float .f64 v2))∨(g=1∧s24=.int .i64 2∧Has2 wx ob (.float .f64 u4) (.float .f64 v4))))
 case atStart=>exact⟨below_alloc HB _,Y.alloc _,R.alloc _,has2_new _ _ _ _,Or.inl ⟨rfl,rfl,O.alloc _⟩⟩
 case round =>
   obtain⟨HC,Y1,R1,A1,hh⟩:=hrel
   clear X Y R HB O x0 x1 x2 x3 x4
   rcases hh with ⟨rfl,rfl,O1⟩ | ⟨rfl,rfl,O1⟩ | ⟨rfl,rfl,O1⟩
   · obtain⟨y0,y1,y2,y3,y4⟩:=id Y1
     obtain⟨a0,a1,a2,a3,a4⟩:=id A1
     go_wp2_with fail
     have l1:V1.heap.size<wr.heap.size:=a4
     replace HC:=below_alloc HC (.cells #[.float .f64 yl,.float .f64 yh] 27)
     replace Y1:=Y1.alloc (.cells #[.float .f64 yl,.float .f64 yh] 27)
     replace R1:=R1.alloc (.cells #[.float .f64 yl,.float .f64 yh] 27)
     replace A1:=A1.alloc (.cells #[.float .f64 yl,.float .f64 yh] 27)
     replace O1:=O1.alloc (.cells #[.float .f64 yl,.float .f64 yh] 27)
     have B1:=has2_new wr (.float .f64 yl) (.float .f64 yh) 27
     clear y0 y1 y2 y3 y4 a0 a1 a2 a3 a4
     generalize wr.alloc (.cells #[.float .f64 yl,.float .f64 yh] 27)=V2 at *
     generalize wr.heap.size=bb at *
     go_loopg [34] 3 (fun g s34 wy=>Below w.heap.size w wy∧Has2 wy (w.heap.size+1) (.float .f64 yl) (.float .f64 yh)∧Has2 wy (w.heap.size+1+1) (.float .f64 0) (.float .f64 0)∧Has2 wy V1.heap.size (.float .f64 xl) (.float .f64 xh)∧Has2 wy bb (.float .f64 yl) (.float .f64 yh) ∧
       ((g=3∧s34=.int .i64 0∧Has2 wy ob (.float .f64 u0) (.float .f64 v0))∨(g=2∧s34=.int .i64 1∧Has2 wy ob (.float .f64 u1) (.float .f64 v1))∨(g=1∧s34=.int .i64 2∧Has2 wy ob (.float .f64 u2) (.float .f64 v2))))
     case atStart=>exact⟨HC,Y1,R1,A1,B1,Or.inl ⟨by first | rfl | trivial,by first | rfl | trivial,O1⟩⟩
     case round =>
     obtain⟨HD,Y2,R2,A2,B2,hh⟩:=hrel
     clear HC Y1 R1 A1 B1 O1
     rcases hh with ⟨rfl,rfl,O2⟩ | ⟨rfl,rfl,O2⟩ | ⟨rfl,rfl,O2⟩
     · obtain⟨b0,b1,b2,b3,b4⟩:=id B2
       go_upto_region 10 with fail
       clear b0 b1 b2 b3 b4
       have ko0:=fun n:Behind _=>Behind.cell n O2.1 O2.2.2.2.2
       have ko1:=fun n:Behind _=>Behind.cell n O2.2.1 O2.2.2.2.2
       refine tail_behind 8 (by kernel_rfl) (by kernel_rfl) ?_
       simp only [List.take_succ_cons,List.take_zero,List.drop_succ_cons,List.drop_zero]
       repeat (go_big_quiet_step (first
         | (go_at_call 57;with_reducible refine Behind.call (m1 _))
         | (go_at_call 57;with_reducible refine Behind.call (m2 _))
         | (go_at_call 56;with_reducible refine Behind.call (w1 _))))
       refine wpQuiet_nil ?_
       rintro _ ⟨n,rfl⟩
       obtain⟨W,hb1⟩:=n
       dsimp only
       clear ko0 ko1
       replace HD:=later HD hb1;replace Y2:=Y2.keep hb1;replace R2:=R2.keep hb1;replace A2:=A2.keep hb1;replace B2:=B2.keep hb1;replace O2:=O2.keep hb1
       clear hb1
       obtain⟨z0,z1,z2,z3,z4⟩:=id O2
       all_goals
         go_wp2_with fail
         go_roundg 2
         case rel =>
           refine⟨?_,Y2.far (by omega) _ _,R2.far (by omega) _ _,A2.far (by omega) _ _,B2.far (by omega) _ _,Or.inr (Or.inl ⟨by first | rfl | trivial,by first | rfl | trivial,O2.put _ _⟩)⟩
           repeat' (first | (with_reducible exact HD) | (with_reducible refine Below.setCell ?_ ?_ _) | go_size | omega)
         case measure=>omega
     · obtain⟨b0,b1,b2,b3,b4⟩:=id B2
       go_upto_region 10 with fail
       clear b0 b1 b2 b3 b4
       have ko0:=fun n:Behind _=>Behind.cell n O2.1 O2.2.2.2.2
       have ko1:=fun n:Behind _=>Behind.cell n O2.2.1 O2.2.2.2.2
       refine tail_behind 8 (by kernel_rfl) (by kernel_rfl) ?_
       simp only [List.take_succ_cons,List.take_zero,List.drop_succ_cons,List.drop_zero]
       repeat (go_big_quiet_step (first
         | (go_at_call 57;with_reducible refine Behind.call (m3 _))
         | (go_at_call 57;with_reducible refine Behind.call (m4 _))
         | (go_at_call 56;with_reducible refine Behind.call (w2 _))))
       refine wpQuiet_nil ?_
       rintro _ ⟨n,rfl⟩
       obtain⟨W,hb1⟩:=n
       dsimp only
       clear ko0 ko1
       replace HD:=later HD hb1;replace Y2:=Y2.keep hb1;replace R2:=R2.keep hb1;replace A2:=A2.keep hb1;replace B2:=B2.keep hb1;replace O2:=O2.keep hb1
       clear hb1
       obtain⟨z0,z1,z2,z3,z4⟩:=id O2
       all_goals
         go_wp2_with fail
         go_roundg 1
         case rel =>
           refine⟨?_,Y2.far (by omega) _ _,R2.far (by omega) _ _,A2.far (by omega) _ _,B2.far (by omega) _ _,Or.inr (Or.inr ⟨by first | rfl | trivial,by first | rfl | trivial,O2.put _ _⟩)⟩
           repeat' (first | (with_reducible exact HD) | (with_reducible refine Below.setCell ?_ ?_ _) | go_size | omega)
         case measure=>omega
     · go_wp2_with fail
       go_roundg 2
       case rel=>exact⟨HD,Y2,R2,A2,Or.inr (Or.inl ⟨by first | rfl | trivial,by first | rfl | trivial,O2⟩)⟩
       case measure=>omega
   · obtain⟨y0,y1,y2,y3,y4⟩:=id Y1
     obtain⟨a0,a1,a2,a3,a4⟩:=id A1
     go_wp2_with fail
     have l1:V1.heap.size<wr.heap.size:=a4
     replace HC:=below_alloc HC (.cells #[.float .f64 yl,.float .f64 yh] 27)
     replace Y1:=Y1.alloc (.cells #[.float .f64 yl,.float .f64 yh] 27)
     replace R1:=R1.alloc (.cells #[.float .f64 yl,.float .f64 yh] 27)
     replace A1:=A1.alloc (.cells #[.float .f64 yl,.float .f64 yh] 27)
     replace O1:=O1.alloc (.cells #[.float .f64 yl,.float .f64 yh] 27)
     have B1:=has2_new wr (.float .f64 yl) (.float .f64 yh) 27
     clear y0 y1 y2 y3 y4 a0 a1 a2 a3 a4
     generalize wr.alloc (.cells #[.float .f64 yl,.float .f64 yh] 27)=V2 at *
     generalize wr.heap.size=bb at *
     go_loopg [34] 3 (fun g s34 wy=>Below w.heap.size w wy∧Has2 wy (w.heap.size+1) (.float .f64 yl) (.float .f64 yh)∧Has2 wy (w.heap.size+1+1) (.float .f64 0) (.float .f64 0)∧Has2 wy V1.heap.size (.float .f64 xl) (.float .f64 xh)∧Has2 wy bb (.float .f64 yl) (.float .f64 yh) ∧
       ((g=3∧s34=.int .i64 0∧Has2 wy ob (.float .f64 u2) (.float .f64 v2))∨(g=2∧s34=.int .i64 1∧Has2 wy ob (.float .f64 u3) (.float .f64 v3))∨(g=1∧s34=.int .i64 2∧Has2 wy ob (.float .f64 u4) (.float .f64 v4))))
     case atStart=>exact⟨HC,Y1,R1,A1,B1,Or.inl ⟨by first | rfl | trivial,by first | rfl | trivial,O1⟩⟩
     case round =>
     obtain⟨HD,Y2,R2,A2,B2,hh⟩:=hrel
     clear HC Y1 R1 A1 B1 O1
     rcases hh with ⟨rfl,rfl,O2⟩ | ⟨rfl,rfl,O2⟩ | ⟨rfl,rfl,O2⟩
     · obtain⟨b0,b1,b2,b3,b4⟩:=id B2
       go_upto_region 10 with fail
       clear b0 b1 b2 b3 b4
       have ko0:=fun n:Behind _=>Behind.cell n O2.1 O2.2.2.2.2
       have ko1:=fun n:Behind _=>Behind.cell n O2.2.1 O2.2.2.2.2
       refine tail_behind 8 (by kernel_rfl) (by kernel_rfl) ?_
       simp only [List.take_succ_cons,List.take_zero,List.drop_succ_cons,List.drop_zero]
       repeat (go_big_quiet_step (first
         | (go_at_call 57;with_reducible refine Behind.call (m5 _))
         | (go_at_call 57;with_reducible refine Behind.call (m6 _))
         | (go_at_call 56;with_reducible refine Behind.call (w3 _))))
       refine wpQuiet_nil ?_
       rintro _ ⟨n,rfl⟩
       obtain⟨W,hb1⟩:=n
       dsimp only
       clear ko0 ko1
       replace HD:=later HD hb1;replace Y2:=Y2.keep hb1;replace R2:=R2.keep hb1;replace A2:=A2.keep hb1;replace B2:=B2.keep hb1;replace O2:=O2.keep hb1
       clear hb1
       obtain⟨z0,z1,z2,z3,z4⟩:=id O2
       all_goals
         go_wp2_with fail
         go_roundg 2
         case rel =>
           refine⟨?_,Y2.far (by omega) _ _,R2.far (by omega) _ _,A2.far (by omega) _ _,B2.far (by omega) _ _,Or.inr (Or.inl ⟨by first | rfl | trivial,by first | rfl | trivial,O2.put _ _⟩)⟩
           repeat' (first | (with_reducible exact HD) | (with_reducible refine Below.setCell ?_ ?_ _) | go_size | omega)
         case measure=>omega
     · obtain⟨b0,b1,b2,b3,b4⟩:=id B2
       go_upto_region 10 with fail
       clear b0 b1 b2 b3 b4
       have ko0:=fun n:Behind _=>Behind.cell n O2.1 O2.2.2.2.2
       have ko1:=fun n:Behind _=>Behind.cell n O2.2.1 O2.2.2.2.2
       refine tail_behind 8 (by kernel_rfl) (by kernel_rfl) ?_
       simp only [List.take_succ_cons,List.take_zero,List.drop_succ_cons,List.drop_zero]
       repeat (go_big_quiet_step (first
         | (go_at_call 57;with_reducible refine Behind.call (m7 _))
         | (go_at_call 57;with_reducible refine Behind.call (m8 _))
         | (go_at_call 56;with_reducible refine Behind.call (w4 _))))
       refine wpQuiet_nil ?_
       rintro _ ⟨n,rfl⟩
       obtain⟨W,hb1⟩:=n
       dsimp only
       clear ko0 ko1
       replace HD:=later HD hb1;replace Y2:=Y2.keep hb1;replace R2:=R2.keep hb1;replace A2:=A2.keep hb1;replace B2:=B2.keep hb1;replace O2:=O2.keep hb1
       clear hb1
       obtain⟨z0,z1,z2,z3,z4⟩:=id O2
       all_goals
         go_wp2_with fail
         go_roundg 1
         case rel =>
           refine⟨?_,Y2.far (by omega) _ _,R2.far (by omega) _ _,A2.far (by omega) _ _,B2.far (by omega) _ _,Or.inr (Or.inr ⟨by first | rfl | trivial,by first | rfl | trivial,O2.put _ _⟩)⟩
           repeat' (first | (with_reducible exact HD) | (with_reducible refine Below.setCell ?_ ?_ _) | go_size | omega)
         case measure=>omega
     · go_wp2_with fail
       go_roundg 1
       case rel=>exact⟨HD,Y2,R2,A2,Or.inr (Or.inr ⟨by first | rfl | trivial,by first | rfl | trivial,O2⟩)⟩
       case measure=>omega
   · obtain⟨o0,o1,o2,o3,o4⟩:=id O1
     go_wp2_with (go_at_call 58;refine (ce _).mono ?_;rintro _ wz ⟨rfl,hb1⟩;replace HC:=later HC hb1;replace R1:=R1.keep hb1;clear hb1;obtain⟨z0,z1,z2,z3,z4⟩:=id R1)
     refine bodyPost_ret (v:=.agg #[.float .f64 r1,.float .f64 r2]) (by simp [results,Tryz.results33,go_sem, *]) rfl ⟨rfl, ?_⟩
     repeat' (first | (with_reducible exact HC) | (with_reducible refine Below.setCell ?_ ?_ _) | go_size)
def shrinkP (xl xh dl dh:Nat):Nat×Nat:=makeP (lqP xl dl dh) (negB (lqP (negB xh) dl dh))
def divP (xl xh yl yh:Nat):Nat×Nat :=
 if (hsB xl xh&&hsB yl yh)=false then (infI 1,infI (-1)) else if key yl=0∧key yh=0 then (infI 1,infI (-1)) else if key xl=0∧key xh=0 then (0,0)
 else if 0≤key yl then shrinkP xl xh yl yh else if key yh≤0 then shrinkP (mirrorP (xl,xh)).1 (mirrorP (xl,xh)).2 (mirrorP (yl,yh)).1 (mirrorP (yl,yh)).2 else (infI (-1),infI 1)
theorem held_pos {lo hi:Nat} (hl:lo<18446744073709551616) (hh:hi<18446744073709551616) (S:Some2 lo hi) (k0:0≤key lo) (k1:0<key hi):∃b,Held lo hi b∧0<key b:=by
 obtain⟨b,H,hb⟩:=held_nonzero hl hh S (by omega)
 have:=H.kl
 exact⟨b,H,by omega⟩
theorem shrink_w {xl xh dl dh:Nat} (h1:xl<18446744073709551616) (h2:xh<18446744073709551616) (h3:dl<18446744073709551616) (h4:dh<18446744073709551616) (S:Some2 xl xh) (T:Some2 dl dh) (k0:0≤key dl) (k1:0<key dh) :
   (∀w,Calls Tryz.prog 115 #[.agg #[.float .f64 xl,.float .f64 xh],.agg #[.float .f64 dl,.float .f64 dh]] w fun e w'=>e=.returned (.agg #[.float .f64 (shrinkP xl xh dl dh).1,.float .f64 (shrinkP xl xh dl dh).2])∧Below w.heap.size w w') ∧
   key (lqP xl dl dh)≤9218868437227405311∧key (lqP (negB xh) dl dh)≤9218868437227405311∧lqP xl dl dh<18446744073709551616∧lqP (negB xh) dl dh<18446744073709551616∧nanB (lqP xl dl dh)=false∧nanB (lqP (negB xh) dl dh)=false:=by
 obtain⟨a,X⟩:=held_some h1 h2 S
 obtain⟨b,D,kb⟩:=held_pos h3 h4 T k0 k1
 have zb:=isZ_pos D.hv (by omega)
 obtain⟨p1,p2,l1⟩:=lq_some X.hl D.hl D.hh X.hv D.hv X.nl D.nl D.nh X.fv D.fv k0 X.kl D.kl D.kh kb
 have n5:nanB (negB xh)=false:=by rw [nanB_negB X.hh];exact X.nh
 have fn:finB (negB a)=true:=by rw [finB_negB X.hv];exact X.fv
 obtain⟨q1,q2,l2⟩:=lq_some (negB_lt X.hh) D.hl D.hh (negB_lt X.hv) D.hv n5 D.nl D.nh fn D.fv k0 (by rw [key_negB X.hh,key_negB X.hv];have:=X.kh;omega) D.kl D.kh kb
 obtain⟨u,hu⟩:∃u:Nat,u=1075:=⟨_,rfl⟩
 have t1:=(div_bot hu X.hv X.fv D.fv zb).2
 have t2:=(div_bot hu (negB_lt X.hv) fn D.fv zb).2
 have r1:=l1.le
 have r2:=l2.le
 refine⟨fun w=>shrink_core xl xh dl dh (negB xh) (lqP xl dl dh) (lqP (negB xh) dl dh) (negB (lqP (negB xh) dl dh)) _ _ (negFloat_eq xh X.hh) (negFloat_eq _ l2.r1)
   (fun w=>lq_w xl dl dh X.hl D.hl D.hh p1 p2 w) (fun w=>lq_w (negB xh) dl dh (negB_lt X.hh) D.hl D.hh q1 q2 w) (fun w=>make_w _ _ l1.r1 (negB_lt l2.r1) w) w,Int.le_trans r1 t1,Int.le_trans r2 t2,l1.r1,l2.r1,l1.r2,l2.r2⟩
theorem mirror_some {lo hi:Nat} (hl:lo<18446744073709551616) (hh:hi<18446744073709551616) (S:Some2 lo hi):Some2 (mirrorP (lo,hi)).1 (mirrorP (lo,hi)).2∧key (mirrorP (lo,hi)).1=- key hi∧key (mirrorP (lo,hi)).2=- key lo∧(mirrorP (lo,hi)).1<18446744073709551616∧(mirrorP (lo,hi)).2<18446744073709551616:=by
 obtain⟨a,X⟩:=held_some hl hh S
 obtain⟨N,k1,k2⟩:=held_neg X
 have w:=mirror_words X
 have e1:(mirrorP (lo,hi)).1=pz (negB hi):=by rw [w]
 have e2:(mirrorP (lo,hi)).2=pz (negB lo):=by rw [w]
 refine⟨⟨N.nl,N.nh,by rw [k1,k2];have:=S.le;omega,by rw [k1];have:=S.gt;omega,by rw [k2];have:=S.lt;omega,by rw [e1];exact pz_ne _,by rw [e2];exact pz_ne _⟩,k1,k2,N.hl,N.hh⟩
theorem o_key {x:Nat} (hx:x<18446744073709551616) (hn:nanB x=false):(key x<0→FloatKind.f64.format.order x 0=some .lt)∧(key x=0→FloatKind.f64.format.order x 0=some .eq)∧(0<key x→FloatKind.f64.format.order x 0=some .gt):=by
 have o:=order_key hx hn
 refine⟨fun h=>by rw [o,if_pos h],fun h=>by rw [o,if_neg (by omega),if_pos h],fun h=>by rw [o,if_neg (by omega),if_neg (by omega)]⟩
set_option maxHeartbeats 2000000 in
theorem div_none (xl xh yl yh:Nat) (h1:xl<18446744073709551616) (h2:xh<18446744073709551616) (h3:yl<18446744073709551616) (h4:yh<18446744073709551616) (hs:(hsB xl xh&&hsB yl yh)=false) (w:World) :
   Calls Tryz.prog 86 #[.agg #[.float .f64 xl,.float .f64 xh],.agg #[.float .f64 yl,.float .f64 yh]] w fun e w'=>e=.returned (.agg #[.float .f64 (infI 1),.float .f64 (infI (-1))])∧Below w.heap.size w w':=by
 have c0:=fun b W hlt c0 c1 c2 c3=>someEmpty2_w b xl xh yl yh h1 h2 h3 h4 W hlt c0 c1 c2 c3
 rw [hs] at c0
 clear hs h1 h2 h3 h4
 have cz:=point0_w
 go_enter Tryz.func86,Tryz.ntmps86
 go_upto_region 2 with
  (go_at_call 107;refine (cz _).mono ?_;rintro _ w1 ⟨rfl,hb1⟩
   have R:Has2 w1 (w.heap.size+1+1) (.float .f64 0) (.float .f64 0):=Has2.keep ⟨by go_simp,by go_simp,by go_simp,by go_simp,by go_size⟩ hb1
   have X:Has2 w1 w.heap.size (.float .f64 xl) (.float .f64 xh):=Has2.keep ⟨by go_simp,by go_simp,by go_simp,by go_simp,by go_size⟩ hb1
   have Y:Has2 w1 (w.heap.size+1) (.float .f64 yl) (.float .f64 yh):=Has2.keep ⟨by go_simp,by go_simp,by go_simp,by go_simp,by go_size⟩ hb1
   have HB:Below w.heap.size w w1:=later (by go_grown) hb1)
 clear hb1 cz
 have Z:Has2 (w1.alloc (Obj.cells #[Value.float FloatKind.f64 0,Value.float FloatKind.f64 0] 40)) w1.heap.size (.float .f64 0) (.float .f64 0):=⟨by go_simp,by go_simp,by go_simp,by go_simp,by go_size⟩
 have BL:Below w1.heap.size w1 (w1.alloc (Obj.cells #[Value.float FloatKind.f64 0,Value.float FloatKind.f64 0] 40)):=(Below.refl _ _).alloc (Nat.le_refl _) _
 replace X:=X.keep BL
 replace Y:=Y.keep BL
 replace R:=R.keep BL
 replace HB:=later HB BL
 clear BL
 generalize w1.heap.size=zb at *
 generalize (w1.alloc (Obj.cells #[Value.float FloatKind.f64 0,Value.float FloatKind.f64 0] 40))=W1 at *
 have x0:=X.1
 have x1:=X.2.1
 have y0:=Y.1
 have y1:=Y.2.1
 have ne1:w.heap.size+1+1≠w.heap.size:=by omega
 have ne2:w.heap.size≠w.heap.size+1+1:=by omega
 go_wp2_with (first
  | (go_at_call 35;refine (c0 W1.heap.size _ (by go_size) (by go_simp) (by go_simp) (by go_simp) (by go_simp)).mono ?_;rintro _ w2 ⟨rfl,hb2⟩
     replace HB:Below w.heap.size w w2:=later (HB.alloc HB.size _) hb2
     replace R:=(R.keep ((Below.refl _ _).alloc (Nat.le_refl _) _)).keep hb2
     replace X:=(X.keep ((Below.refl _ _).alloc (Nat.le_refl _) _)).keep hb2
     replace Y:=(Y.keep ((Below.refl _ _).alloc (Nat.le_refl _) _)).keep hb2
     replace Z:=(Z.keep ((Below.refl _ _).alloc (Nat.le_refl _) _)).keep hb2
     replace x0:=X.1
     replace x1:=X.2.1
     replace y0:=Y.1
     replace y1:=Y.2.1
     have w0:=Z.1
     have w1':=Z.2.1
     clear hb2)
  | (go_at_call 69;refine (empty_w _).mono ?_;rintro _ w3 ⟨rfl,hb1⟩;replace X:=X.keep hb1;replace Y:=Y.keep hb1;replace R:=R.keep hb1;replace HB:=later HB hb1;clear hb1;obtain⟨d0,d1,d2,d3,d4⟩:=R))
 all_goals
   refine bodyPost_ret (v:=.agg #[.float .f64 (infI 1),.float .f64 (infI (-1))]) (by simp [results,Tryz.results86,go_sem, *]) rfl ⟨rfl, ?_⟩
   repeat' (first | (with_reducible exact HB) | (with_reducible refine Below.setCell ?_ ?_ _) | go_size)
theorem Div_w (xl xh yl yh:Nat) (h1:xl<18446744073709551616) (h2:xh<18446744073709551616) (h3:yl<18446744073709551616) (h4:yh<18446744073709551616) (w:World) :
   Calls Tryz.prog 86 #[.agg #[.float .f64 xl,.float .f64 xh],.agg #[.float .f64 yl,.float .f64 yh]] w fun e w'=>e=.returned (.agg #[.float .f64 (divP xl xh yl yh).1,.float .f64 (divP xl xh yl yh).2])∧Below w.heap.size w w':=by
 unfold divP
 cases hs:hsB xl xh&&hsB yl yh
 · rw [if_pos rfl]
   exact div_none xl xh yl yh h1 h2 h3 h4 hs w
 · rw [if_neg (by simp)]
   obtain⟨hx,hy⟩:=Bool.and_eq_true_iff.1 hs
   have S:=hs_iff.1 hx
   have T:=hs_iff.1 hy
   obtain⟨a,X⟩:=held_some h1 h2 S
   obtain⟨b,Y⟩:=held_some h3 h4 T
   have c0:=some2 X Y
   obtain⟨oa,ob,oc⟩:=o_key h3 T.nl
   obtain⟨od,oe,of⟩:=o_key h4 T.nh
   have x1:=o_eq h1 (show 0<18446744073709551616 by omega)
   have x2:=o_eq h2 (show 0<18446744073709551616 by omega)
   rw [eq00 S.nl] at x1
   rw [eq00 S.nh] at x2
   have ky:=T.le
   by_cases cy:key yl=0∧key yh=0
   · rw [if_pos cy]
     exact div_e xl xh yl yh c0 point0_w (ob cy.1) (oe cy.2) w
   · rw [if_neg cy]
     have hy:FloatKind.f64.format.order yl 0=some .gt∨FloatKind.f64.format.order yl 0=some .lt∨FloatKind.f64.format.order yl 0=some .eq∧FloatKind.f64.format.order yh 0=some .gt:=by
       rcases Int.lt_trichotomy (key yl) 0 with c | c | c
       · exact Or.inr (Or.inl (oa c))
       · exact Or.inr (Or.inr ⟨ob c,of (by omega)⟩)
       · exact Or.inl (oc c)
     by_cases cx:key xl=0∧key xh=0
     · rw [if_pos cx]
       exact div_z xl xh yl yh c0 point0_w hy (by rw [x1];simp [cx.1]) (by rw [x2];simp [cx.2]) w
     · rw [if_neg cx]
       have hx:(decide (key xl=0))=false∨(decide (key xl=0))=true∧(decide (key xh=0))=false:=by
         by_cases c:key xl=0
         · right
           refine⟨by simp [c], ?_⟩
           have:¬key xh=0:=fun h=>cx ⟨c,h⟩
           simp [this]
         · left;simp [c]
       by_cases p1:0≤key yl
       · rw [if_pos p1]
         have cs:=(shrink_w h1 h2 h3 h4 S T p1 (by omega)).1
         have hy':FloatKind.f64.format.order yl 0=some .gt∨FloatKind.f64.format.order yl 0=some .eq∧FloatKind.f64.format.order yh 0=some .gt:=by
           by_cases c:key yl=0
           · exact Or.inr ⟨ob c,of (by omega)⟩
           · exact Or.inl (oc (by omega))
         exact div_a xl xh yl yh _ _ _ _ c0 point0_w hy' x1 x2 hx cs w
       · rw [if_neg p1]
         have oy:=oa (by omega)
         by_cases p2:key yh≤0
         · rw [if_pos p2]
           obtain⟨S',k1,k2,l1,l2⟩:=mirror_some h1 h2 S
           obtain⟨T',k3,k4,l3,l4⟩:=mirror_some h3 h4 T
           have cs:=(shrink_w l1 l2 l3 l4 S' T' (by omega) (by omega)).1
           have hy':FloatKind.f64.format.order yh 0=some .lt∨FloatKind.f64.format.order yh 0=some .eq:=by
             by_cases c:key yh=0
             · exact Or.inr (oe c)
             · exact Or.inl (od (by omega))
           obtain⟨oL,oH,hL,hH⟩:∃oL oH:Nat→Nat→Nat,(∀p q,oL p q=(mirrorP (p,q)).1)∧(∀p q,oH p q=(mirrorP (p,q)).2):=⟨fun p q=>(mirrorP (p,q)).1,fun p q=>(mirrorP (p,q)).2,fun _ _=>rfl,fun _ _=>rfl⟩
           rw [←hL xl xh,←hH xl xh,←hL yl yh,←hH yl yh] at cs ⊢
           have cM:∀p q,p<18446744073709551616→q<18446744073709551616→∀w,Calls Tryz.prog 113 #[.agg #[.float .f64 p,.float .f64 q]] w fun e w'=>e=.returned (.agg #[.float .f64 (oL p q),.float .f64 (oH p q)])∧Below w.heap.size w w':=fun p q hp hq w=>by
             rw [hL,hH];exact mirror_w p q hp hq w
           exact div_b xl xh yl yh _ _ oL oH _ _ h1 h2 h3 h4 c0 point0_w oy hy' x1 x2 hx cM cs w
         · rw [if_neg p2]
           exact div_whole xl xh yl yh _ _ c0 point0_w oy (of (by omega)) x1 x2 hx w
theorem zminus_nan {b:Nat} (hb:b<18446744073709551616):nanB (zminus b)=nanB b:=by
 rw [←nan_pz (zminus b),pz_zminus hb,nan_pz,nanB_negB hb]
theorem zminus_is {b:Nat} (hb:b<18446744073709551616) (h:key b≠0):zminus b=negB b:=by
 unfold zminus
 rw [isZ_pos hb h]
 simp
theorem divD_zero {a b:Nat} (ha:a<18446744073709551616) (na:nanB a=false) (nb:nanB b=false) (ka:key a=0) (zb:isZ b=false):divD a b=0:=by
 have z:=(key_zero ha).2 ka
 have h:a%9223372036854775808=0:=by simpa [isZ] using z
 have fa:finB a=true:=by unfold finB;rw [h];simp
 have zm:splitM a=0:=by unfold splitM;rw [if_pos (by omega),h]
 have e:divF a b (-1)=0:=by
   unfold divF
   rw [zm,quoM_zero]
   unfold roundN
   rw [if_pos rfl]
 unfold divD divR
 rw [na,nb,zb,fa]
 generalize divF a b (-1)=q at *
 subst e
 cases finB b <;> rfl
theorem rmulV_w (a b:Nat) (d:Int) (ha:a<18446744073709551616) (hb:b<18446744073709551616) (na:nanB a=false) (nb:nanB b=false) (w:World) :
   Calls Tryz.prog 57 #[.float .f64 a,.float .f64 b,.int .i64 d] w fun e w'=>e=.returned (.float .f64 (mulV a b d))∧Below w.heap.size w w' :=
 told_calls (mulV_is d na nb) (fun w=>rmul_w a b d ha hb w) w
set_option maxHeartbeats 1000000 in
theorem rmul_none (xl xh yl yh:Nat) (b1 b2:Bool)
   (c1:∀w,Calls Tryz.prog 24 #[.agg #[.float .f64 xl,.float .f64 xh]] w fun e w'=>e=.returned (.bool (!b1))∧Below w.heap.size w w')
   (c2:∀w,Calls Tryz.prog 24 #[.agg #[.float .f64 yl,.float .f64 yh]] w fun e w'=>e=.returned (.bool (!b2))∧Below w.heap.size w w')
   (hb:(b1&&b2)=false) (w:World) :
   Calls Tryz.prog 33 #[.agg #[.float .f64 xl,.float .f64 xh],.agg #[.float .f64 yl,.float .f64 yh]] w fun e w'=>e=.returned (.agg #[.float .f64 (infI 1),.float .f64 (infI (-1))])∧Below w.heap.size w w':=by
 obtain⟨X,Y,R,HB⟩:=enter2 w (.float .f64 xl) (.float .f64 xh) (.float .f64 yl) (.float .f64 yh) 40
 cases b1
 case' true=>cases b2
 case true.true=>cases hb
 all_goals
   simp only [Bool.not_true,Bool.not_false] at c1 c2
   go_enter Tryz.func33,Tryz.ntmps33
   go_wp2_with fail
   generalize ((w.alloc (.cells #[.float .f64 xl,.float .f64 xh] 40)).alloc (.cells #[.float .f64 yl,.float .f64 yh] 40)).alloc (.cells #[.float .f64 0,.float .f64 0] 40)=V0 at *
   obtain⟨x0,x1,x2,x3,x4⟩:=id X
   obtain⟨y0,y1,y2,y3,y4⟩:=id Y
   obtain⟨r0,r1,r2,r3,r4⟩:=id R
   go_wp2_with (first
     | (go_at_call_of 24 (Value.agg #[.float .f64 xl,.float .f64 xh]);refine (c1 _).mono ?_;rintro _ w1 ⟨rfl,hb1⟩;replace X:=X.keep hb1;replace Y:=Y.keep hb1;replace R:=R.keep hb1;replace HB:=later HB hb1;clear hb1 x0 x1 x2 x3 x4 y0 y1 y2 y3 y4 r0 r1 r2 r3 r4
        obtain⟨x0,x1,x2,x3,x4⟩:=id X
        obtain⟨y0,y1,y2,y3,y4⟩:=id Y
        obtain⟨r0,r1,r2,r3,r4⟩:=id R)
     | (go_at_call_of 24 (Value.agg #[.float .f64 yl,.float .f64 yh]);refine (c2 _).mono ?_;rintro _ w1 ⟨rfl,hb1⟩;replace X:=X.keep hb1;replace Y:=Y.keep hb1;replace R:=R.keep hb1;replace HB:=later HB hb1;clear hb1 x0 x1 x2 x3 x4 y0 y1 y2 y3 y4 r0 r1 r2 r3 r4
        obtain⟨x0,x1,x2,x3,x4⟩:=id X
        obtain⟨y0,y1,y2,y3,y4⟩:=id Y
        obtain⟨r0,r1,r2,r3,r4⟩:=id R)
     | (go_at_call 38;refine (rempty_w _).mono ?_;rintro _ w1 ⟨rfl,hb1⟩;replace X:=X.keep hb1;replace Y:=Y.keep hb1;replace R:=R.keep hb1;replace HB:=later HB hb1;clear hb1 x0 x1 x2 x3 x4 y0 y1 y2 y3 y4 r0 r1 r2 r3 r4
        obtain⟨x0,x1,x2,x3,x4⟩:=id X
        obtain⟨y0,y1,y2,y3,y4⟩:=id Y
        obtain⟨r0,r1,r2,r3,r4⟩:=id R))
   refine bodyPost_ret (v:=.agg #[.float .f64 (infI 1),.float .f64 (infI (-1))]) (by simp [results,Tryz.results33,go_sem, *]) rfl ⟨rfl, ?_⟩
   repeat' (first | (with_reducible exact HB) | (with_reducible refine Below.setCell ?_ ?_ _) | go_size)
def mulP (xl xh yl yh:Nat):Nat×Nat:=if hsB xl xh&&hsB yl yh then rmulP xl xh yl yh else (infI 1,infI (-1))
theorem mul_both {xl xh yl yh:Nat} (h1:xl<18446744073709551616) (h2:xh<18446744073709551616) (h3:yl<18446744073709551616) (h4:yh<18446744073709551616) (S:Some2 xl xh) (T:Some2 yl yh) :
   (∀w,Calls Tryz.prog 85 #[.agg #[.float .f64 xl,.float .f64 xh],.agg #[.float .f64 yl,.float .f64 yh]] w fun e w'=>e=.returned (.agg #[.float .f64 (rmulP xl xh yl yh).1,.float .f64 (rmulP xl xh yl yh).2])∧Below w.heap.size w w')∧(rmulP xl xh yl yh).1<18446744073709551616∧(rmulP xl xh yl yh).2<18446744073709551616:=by
 obtain⟨a,X⟩:=held_some h1 h2 S
 obtain⟨b,Y⟩:=held_some h3 h4 T
 obtain⟨m1,m2,c,Z,l1,l2,k1,k2⟩:=mul_ends X Y
 rw [rmul_is S.nl S.nh T.nl T.nh Z k1 k2]
 exact⟨c,l1,l2⟩
theorem mulP_lt {xl xh yl yh:Nat} (h1:xl<18446744073709551616) (h2:xh<18446744073709551616) (h3:yl<18446744073709551616) (h4:yh<18446744073709551616):(mulP xl xh yl yh).1<18446744073709551616∧(mulP xl xh yl yh).2<18446744073709551616:=by
 unfold mulP
 cases hs:hsB xl xh&&hsB yl yh
 · rw [if_neg (by simp)];exact⟨infI_lt 1,infI_lt (-1)⟩
 · rw [if_pos rfl]
   obtain⟨hx,hy⟩:=Bool.and_eq_true_iff.1 hs
   exact (mul_both h1 h2 h3 h4 (hs_iff.1 hx) (hs_iff.1 hy)).2
theorem Mul_w (xl xh yl yh:Nat) (h1:xl<18446744073709551616) (h2:xh<18446744073709551616) (h3:yl<18446744073709551616) (h4:yh<18446744073709551616) (w:World) :
   Calls Tryz.prog 85 #[.agg #[.float .f64 xl,.float .f64 xh],.agg #[.float .f64 yl,.float .f64 yh]] w fun e w'=>e=.returned (.agg #[.float .f64 (mulP xl xh yl yh).1,.float .f64 (mulP xl xh yl yh).2])∧Below w.heap.size w w':=by
 unfold mulP
 cases hs:hsB xl xh&&hsB yl yh
 · rw [if_neg (by simp)]
   exact mul_none xl xh yl yh h1 h2 h3 h4 hs w
 · rw [if_pos rfl]
   obtain⟨hx,hy⟩:=Bool.and_eq_true_iff.1 hs
   exact (mul_both h1 h2 h3 h4 (hs_iff.1 hx) (hs_iff.1 hy)).1 w
theorem rMul_w (xl xh yl yh:Nat) (h1:xl<18446744073709551616) (h2:xh<18446744073709551616) (h3:yl<18446744073709551616) (h4:yh<18446744073709551616) (w:World) :
   Calls Tryz.prog 33 #[.agg #[.float .f64 xl,.float .f64 xh],.agg #[.float .f64 yl,.float .f64 yh]] w fun e w'=>e=.returned (.agg #[.float .f64 (mulP xl xh yl yh).1,.float .f64 (mulP xl xh yl yh).2])∧Below w.heap.size w w':=by
 unfold mulP
 cases hs:hsB xl xh&&hsB yl yh
 · rw [if_neg (by simp)]
   exact rmul_none xl xh yl yh _ _ (fun w=>none_w xl xh h1 h2 w) (fun w=>none_w yl yh h3 h4 w) hs w
 · rw [if_pos rfl]
   obtain⟨hx,hy⟩:=Bool.and_eq_true_iff.1 hs
   have S:=hs_iff.1 hx
   have T:=hs_iff.1 hy
   have c1:=fun w=>none_w xl xh h1 h2 w
   have c2:=fun w=>none_w yl yh h3 h4 w
   rw [hx] at c1
   rw [hy] at c2
   have o1:∀{a b:Nat},a<18446744073709551616→b<18446744073709551616→out1 a b<18446744073709551616:=fun {a b} ha hb=>by unfold out1;split <;> assumption
   have o2:∀{a b:Nat},a<18446744073709551616→b<18446744073709551616→out2 a b<18446744073709551616:=fun {a b} ha hb=>by unfold out2;split <;> assumption
   have i1:=infI_lt 1
   have i2:=infI_lt (-1)
   have d1:=(mulV_facts (-1) S.nl T.nl).2
   have d2:=(mulV_facts (-1) S.nl T.nh).2
   have d3:=(mulV_facts (-1) S.nh T.nl).2
   have d4:=(mulV_facts (-1) S.nh T.nh).2
   have e1:=(mulV_facts 1 S.nl T.nl).2
   have e2:=(mulV_facts 1 S.nl T.nh).2
   have e3:=(mulV_facts 1 S.nh T.nl).2
   have e4:=(mulV_facts 1 S.nh T.nh).2
   unfold rmulP
   have q1:=o1 i1 d1
   have q2:=o1 q1 d2
   have q3:=o1 q2 d3
   have q4:=o1 q3 d4
   have p1:=o2 i2 e1
   have p2:=o2 p1 e2
   have p3:=o2 p2 e3
   have p4:=o2 p3 e4
   have ce:=fun w=>rends_core _ _ _ _ _ _ (rendsP _ _) (o_gt q4 (show 9218868437227405311<18446744073709551616 by omega)) (o_lt p4 (show 18442240474082181119<18446744073709551616 by omega)) rfl rfl (fun w=>rmake_w _ _ (by split <;> omega) (by split <;> omega) w) w
   exact rmul_core xl xh yl yh _ _ _ _ _ _ _ _ _ _ _ _ _ _ _ _ _ _ _ _ c1 c2 (fun w=>rempty_w w) (fun w=>rmulV_w _ _ _ h1 h3 S.nl T.nl w) (fun w=>rmulV_w _ _ _ h1 h3 S.nl T.nl w) (fun w=>rmulV_w _ _ _ h1 h4 S.nl T.nh w) (fun w=>rmulV_w _ _ _ h1 h4 S.nl T.nh w)
     (fun w=>rmulV_w _ _ _ h2 h3 S.nh T.nl w) (fun w=>rmulV_w _ _ _ h2 h3 S.nh T.nl w) (fun w=>rmulV_w _ _ _ h2 h4 S.nh T.nh w) (fun w=>rmulV_w _ _ _ h2 h4 S.nh T.nh w)
     (fun w=>rwider_w _ _ _ _ i1 i2 d1 e1 w) (fun w=>rwider_w _ _ _ _ q1 p1 d2 e2 w) (fun w=>rwider_w _ _ _ _ q2 p2 d3 e3 w) (fun w=>rwider_w _ _ _ _ q3 p3 d4 e4 w) ce w
def sqrP (lo hi:Nat):Nat×Nat:=if hsB lo hi then (mulV (migP lo hi) (migP lo hi) (-1),mulV (magP lo hi) (magP lo hi) 1) else (infI 1,infI (-1))
theorem sqrP_lt {lo hi:Nat} (hl:lo<18446744073709551616) (hh:hi<18446744073709551616):(sqrP lo hi).1<18446744073709551616∧(sqrP lo hi).2<18446744073709551616:=by
 unfold sqrP
 cases hs:hsB lo hi
 · rw [if_neg (by simp)];exact⟨infI_lt 1,infI_lt (-1)⟩
 · rw [if_pos rfl]
   obtain⟨-, -, -,n1,n2, -, -⟩:=mag_keys hl hh (hs_iff.1 hs)
   exact⟨(mulV_facts (-1) n1 n1).2,(mulV_facts 1 n2 n2).2⟩
set_option maxHeartbeats 1000000 in
theorem sqr_none (lo hi:Nat) (hl:lo<18446744073709551616) (hh:hi<18446744073709551616) (hs:hsB lo hi=false) (w:World) :
   Calls Tryz.prog 190 #[.agg #[.float .f64 lo,.float .f64 hi]] w fun e w'=>e=.returned (.agg #[.float .f64 (infI 1),.float .f64 (infI (-1))])∧Below w.heap.size w w':=by
 have c0:=fun b W c0 c1=>someEmpty1_w b lo hi hl hh W c0 c1
 rw [hs] at c0
 go_enter Tryz.func190,Tryz.ntmps190
 go_wp2_with (first
   | (go_at_call 35;refine (c0 (w.heap.size+1+1) _ (by go_simp) (by go_simp)).mono ?_;rintro _ w1 ⟨rfl,hb1⟩
      have R:Has2 w1 (w.heap.size+1) (.float .f64 0) (.float .f64 0):=Has2.keep ⟨by go_simp,by go_simp,by go_simp,by go_simp,by go_size⟩ hb1
      have HB:Below w.heap.size w w1:=later (by go_grown) hb1)
   | (go_at_call 69;refine (empty_w _).mono ?_;rintro _ w2 ⟨rfl,hb1⟩;replace R:=R.keep hb1;replace HB:=later HB hb1;clear hb1
      obtain⟨k0,k1,k2,k3,k4⟩:=id R))
 refine bodyPost_ret (v:=.agg #[.float .f64 (infI 1),.float .f64 (infI (-1))]) (by simp [results,Tryz.results190,go_sem, *]) rfl ⟨rfl, ?_⟩
 repeat' (first | (with_reducible exact HB) | (with_reducible refine Below.setCell ?_ ?_ _) | go_size)
theorem Sqr_w (lo hi:Nat) (hl:lo<18446744073709551616) (hh:hi<18446744073709551616) (w:World) :
   Calls Tryz.prog 190 #[.agg #[.float .f64 lo,.float .f64 hi]] w fun e w'=>e=.returned (.agg #[.float .f64 (sqrP lo hi).1,.float .f64 (sqrP lo hi).2])∧Below w.heap.size w w':=by
 unfold sqrP
 cases hs:hsB lo hi
 · rw [if_neg (by simp)]
   exact sqr_none lo hi hl hh hs w
 · rw [if_pos rfl]
   obtain⟨-, -, -,n1,n2,m1,m2⟩:=mag_keys hl hh (hs_iff.1 hs)
   have c0:=fun b W c0 c1=>someEmpty1_w b lo hi hl hh W c0 c1
   rw [hs] at c0
   exact sqr_core lo hi _ _ _ _ c0 (fun w=>mig_w lo hi hl hh w) (fun w=>mag_w lo hi hl hh w) (fun w=>mulV_w _ _ _ (by omega) (by omega) n1 n1 w) (fun w=>mulV_w _ _ _ (by omega) (by omega) n2 n2 w) w
end Go.Proofs.YtnnfafilgiajoaaGreat
