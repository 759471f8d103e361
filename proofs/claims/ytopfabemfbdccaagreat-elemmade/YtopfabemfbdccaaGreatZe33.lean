/- Plain facts on powers: products, one by one, rounded to a side; the reference's amounts. The walks of the reference's wider and Mul of intervals, of its amounts and of its square; IvalProducts' walk. -/
import Derived.Test.YtopfabemfbdccaaGreatZe29
import Derived.Test.YtopfabemfbdccaaGreatZe32
import Derived.Test.YtopfabemfbdccaaGreatZe28
namespace Go.Proofs.YtopfabemfbdccaaGreat
open Go.ChangeShapes Go.WideShapes Go.ChangeAt Go.RowKit
theorem fin_of {x:Nat} (hx:x<18446744073709551616) (nx:nanB x=false) (k0:0≤key x) (k1:key x≤9218868437227405311):finB x=true:=by
 cases h:finB x
 · rcases (key_inf hx nx).1 h with d | d <;> omega
 · rfl
theorem mag_keys {lo hi:Nat} (hl:lo<18446744073709551616) (hh:hi<18446744073709551616) (S:Some2 lo hi):0≤key (migP lo hi)∧key (migP lo hi)≤9218868437227405311∧key (migP lo hi)≤key (magP lo hi)∧nanB (migP lo hi)=false∧nanB (magP lo hi)=false∧migP lo hi<9223372036854775808∧magP lo hi<9223372036854775808:=by
 have hs:=hs_iff.2 S
 have a1:=key_abs hl
 have a2:=key_abs hh
 have n1:=nan_abs lo
 have n2:=nan_abs hi
 rw [S.nl] at n1
 rw [S.nh] at n2
 have w1:lo%9223372036854775808<9223372036854775808:=Nat.mod_lt _ (by omega)
 have w2:hi%9223372036854775808<9223372036854775808:=Nat.mod_lt _ (by omega)
 have x1:=maxW_is (a:=lo%9223372036854775808) (b:=hi%9223372036854775808) (by omega) (by omega)
 have x2:=minW_is (a:=lo%9223372036854775808) (b:=hi%9223372036854775808) (by omega) (by omega)
 have kl:=S.le
 have k3:=S.lt
 have k4:=S.gt
 unfold migP magP
 rw [hs]
 simp only [if_true]
 rw [x1,x2]
 generalize lo%9223372036854775808=A at *
 generalize hi%9223372036854775808=B at *
 have kA:0≤key A:=by rw [a1];split <;> omega
 have kB:0≤key B:=by rw [a2];split <;> omega
 cases h:hasB lo hi 0
 · simp only [Bool.false_eq_true,if_false]
   have no:¬(key lo≤0∧0≤key hi):=fun c=>by
     have:hasB lo hi 0=true:=has_iff.2 ⟨S,by decide,by decide,c.1,c.2⟩
     rw [h] at this
     cases this
   refine⟨?_, ?_, ?_, ?_, ?_, ?_, ?_⟩
   · split <;> assumption
   · split <;> split at a1 <;> split at a2 <;> omega
   · split <;> split <;> omega
   · split <;> assumption
   · split <;> assumption
   · split <;> assumption
   · split <;> assumption
 · simp only [if_true]
   have e0:key 0=0:=by decide
   refine⟨by decide,by decide, ?_,by decide, ?_,by omega, ?_⟩
   · rw [e0];split <;> assumption
   · split <;> assumption
   · split <;> assumption
set_option maxHeartbeats 1000000 in
theorem rwider_core (u v l h:Nat) (b1 b2:Bool) (o1:(FloatKind.f64.format.order l u==some .lt)=b1) (o2:(FloatKind.f64.format.order h v==some .gt)=b2) (r1 r2:Nat) (e1:r1=if b1 then l else u) (e2:r2=if b2 then h else v) (w:World) :
   Calls Tryz.prog 58 #[.agg #[.float .f64 u,.float .f64 v],.float .f64 l,.float .f64 h] w fun e w'=>e=.returned (.agg #[.float .f64 r1,.float .f64 r2])∧Below w.heap.size w w':=by
 have ne1:w.heap.size+1≠w.heap.size:=by omega
 have ne2:w.heap.size≠w.heap.size+1:=by omega
 cases b1 <;> cases b2
 all_goals
   simp only [if_true,Bool.false_eq_true,if_false] at e1 e2
   subst e1 e2
   go_enter Tryz.func58,Tryz.ntmps58
   go_wp2_with fail
   refine bodyPost_ret (v:=.agg #[.float .f64 r1,.float .f64 r2]) (by simp [results,Tryz.results58,go_sem, *]) rfl ⟨rfl,by go_grown⟩
theorem rwider_w (u v l h:Nat) (h1:u<18446744073709551616) (h2:v<18446744073709551616) (h3:l<18446744073709551616) (h4:h<18446744073709551616) (w:World) :
   Calls Tryz.prog 58 #[.agg #[.float .f64 u,.float .f64 v],.float .f64 l,.float .f64 h] w fun e w'=>e=.returned (.agg #[.float .f64 (out1 u l),.float .f64 (out2 v h)])∧Below w.heap.size w w' :=
 rwider_core u v l h _ _ (o_lt h3 h1) (o_gt h4 h2) _ _ rfl rfl w
set_option maxHeartbeats 16000000 in
set_option maxRecDepth 100000 in
theorem rmul_core (xl xh yl yh u0 v0 u1 v1 u2 v2 u3 v3 u4 v4 d1 d2 d3 d4 e1 e2 e3 e4 r1 r2:Nat)
   (c1:∀w,Calls Tryz.prog 30 #[.agg #[.float .f64 xl,.float .f64 xh]] w fun e w'=>e=.returned (.bool false)∧Below w.heap.size w w')
   (c2:∀w,Calls Tryz.prog 30 #[.agg #[.float .f64 yl,.float .f64 yh]] w fun e w'=>e=.returned (.bool false)∧Below w.heap.size w w')
   (c3:∀w,Calls Tryz.prog 46 #[] w fun e w'=>e=.returned (.agg #[.float .f64 u0,.float .f64 v0])∧Below w.heap.size w w')
   (m1:∀w,Calls Tryz.prog 59 #[.float .f64 xl,.float .f64 yl,.int .i64 (-1)] w fun e w'=>e=.returned (.float .f64 d1)∧Below w.heap.size w w')
   (m2:∀w,Calls Tryz.prog 59 #[.float .f64 xl,.float .f64 yl,.int .i64 1] w fun e w'=>e=.returned (.float .f64 e1)∧Below w.heap.size w w')
   (m3:∀w,Calls Tryz.prog 59 #[.float .f64 xl,.float .f64 yh,.int .i64 (-1)] w fun e w'=>e=.returned (.float .f64 d2)∧Below w.heap.size w w')
   (m4:∀w,Calls Tryz.prog 59 #[.float .f64 xl,.float .f64 yh,.int .i64 1] w fun e w'=>e=.returned (.float .f64 e2)∧Below w.heap.size w w')
   (m5:∀w,Calls Tryz.prog 59 #[.float .f64 xh,.float .f64 yl,.int .i64 (-1)] w fun e w'=>e=.returned (.float .f64 d3)∧Below w.heap.size w w')
   (m6:∀w,Calls Tryz.prog 59 #[.float .f64 xh,.float .f64 yl,.int .i64 1] w fun e w'=>e=.returned (.float .f64 e3)∧Below w.heap.size w w')
   (m7:∀w,Calls Tryz.prog 59 #[.float .f64 xh,.float .f64 yh,.int .i64 (-1)] w fun e w'=>e=.returned (.float .f64 d4)∧Below w.heap.size w w')
   (m8:∀w,Calls Tryz.prog 59 #[.float .f64 xh,.float .f64 yh,.int .i64 1] w fun e w'=>e=.returned (.float .f64 e4)∧Below w.heap.size w w')
   (w1:∀w,Calls Tryz.prog 58 #[.agg #[.float .f64 u0,.float .f64 v0],.float .f64 d1,.float .f64 e1] w fun e w'=>e=.returned (.agg #[.float .f64 u1,.float .f64 v1])∧Below w.heap.size w w')
   (w2:∀w,Calls Tryz.prog 58 #[.agg #[.float .f64 u1,.float .f64 v1],.float .f64 d2,.float .f64 e2] w fun e w'=>e=.returned (.agg #[.float .f64 u2,.float .f64 v2])∧Below w.heap.size w w')
   (w3:∀w,Calls Tryz.prog 58 #[.agg #[.float .f64 u2,.float .f64 v2],.float .f64 d3,.float .f64 e3] w fun e w'=>e=.returned (.agg #[.float .f64 u3,.float .f64 v3])∧Below w.heap.size w w')
   (w4:∀w,Calls Tryz.prog 58 #[.agg #[.float .f64 u3,.float .f64 v3],.float .f64 d4,.float .f64 e4] w fun e w'=>e=.returned (.agg #[.float .f64 u4,.float .f64 v4])∧Below w.heap.size w w')
   (ce:∀w,Calls Tryz.prog 60 #[.float .f64 u4,.float .f64 v4] w fun e w'=>e=.returned (.agg #[.float .f64 r1,.float .f64 r2])∧Below w.heap.size w w') (w:World) :
   Calls Tryz.prog 21 #[.agg #[.float .f64 xl,.float .f64 xh],.agg #[.float .f64 yl,.float .f64 yh]] w fun e w'=>e=.returned (.agg #[.float .f64 r1,.float .f64 r2])∧Below w.heap.size w w':=by
 obtain⟨X,Y,R,HB⟩:=enter2 w (.float .f64 xl) (.float .f64 xh) (.float .f64 yl) (.float .f64 yh) 24
 have ne1:w.heap.size+1+1≠w.heap.size:=by omega
 have ne2:w.heap.size≠w.heap.size+1+1:=by omega
 go_enter Tryz.func21,Tryz.ntmps21
 go_wp2_with fail
 generalize ((w.alloc (.cells #[.float .f64 xl,.float .f64 xh] 24)).alloc (.cells #[.float .f64 yl,.float .f64 yh] 24)).alloc (.cells #[.float .f64 0,.float .f64 0] 24)=V0 at *
 obtain⟨x0,x1,x2,x3,x4⟩:=id X
 obtain⟨y0,y1,y2,y3,y4⟩:=id Y
 go_upto_region 4 with (first
   | (go_at_call_of 30 (Value.agg #[.float .f64 xl,.float .f64 xh]);refine (c1 _).mono ?_;rintro _ wa ⟨rfl,hb1⟩;replace X:=X.keep hb1;replace Y:=Y.keep hb1;replace R:=R.keep hb1;replace HB:=later HB hb1;clear hb1 x0 x1 x2 x3 x4 y0 y1 y2 y3 y4
      obtain⟨x0,x1,x2,x3,x4⟩:=id X
      obtain⟨y0,y1,y2,y3,y4⟩:=id Y)
   | (go_at_call_of 30 (Value.agg #[.float .f64 yl,.float .f64 yh]);refine (c2 _).mono ?_;rintro _ wa ⟨rfl,hb1⟩;replace X:=X.keep hb1;replace Y:=Y.keep hb1;replace R:=R.keep hb1;replace HB:=later HB hb1;clear hb1 x0 x1 x2 x3 x4 y0 y1 y2 y3 y4
      obtain⟨x0,x1,x2,x3,x4⟩:=id X
      obtain⟨y0,y1,y2,y3,y4⟩:=id Y)
   | (go_at_call 46;refine (c3 _).mono ?_;rintro _ wb ⟨rfl,hb1⟩;replace X:=X.keep hb1;replace Y:=Y.keep hb1;replace R:=R.keep hb1;replace HB:=later HB hb1;clear hb1 x0 x1 x2 x3 x4 y0 y1 y2 y3 y4
      obtain⟨x0,x1,x2,x3,x4⟩:=id X
      obtain⟨y0,y1,y2,y3,y4⟩:=id Y))
 have lt0:w.heap.size+1+1<wb.heap.size:=R.2.2.2.2
 have O:=has2_new wb (.float .f64 u0) (.float .f64 v0) 24
 replace X:=X.alloc (.cells #[.float .f64 u0,.float .f64 v0] 24)
 replace Y:=Y.alloc (.cells #[.float .f64 u0,.float .f64 v0] 24)
 replace R:=R.alloc (.cells #[.float .f64 u0,.float .f64 v0] 24)
 replace HB:=below_alloc HB (.cells #[.float .f64 u0,.float .f64 v0] 24)
 clear x0 x1 x2 x3 x4 y0 y1 y2 y3 y4 c1 c2 c3
 generalize wb.alloc (.cells #[.float .f64 u0,.float .f64 v0] 24)=V1 at *
 generalize wb.heap.size=ob at *
 clear wb
 obtain⟨x0,x1,x2,x3,x4⟩:=id X
 go_wp2_with fail
 have lo1:ob<V1.heap.size:=O.2.2.2.2
 go_loopg [24] 3 (fun g s24 wx=>Below w.heap.size w wx∧Has2 wx (w.heap.size+1) (.float .f64 yl) (.float .f64 yh)∧Has2 wx (w.heap.size+1+1) (.float .f64 0) (.float .f64 0)∧Has2 wx V1.heap.size (.float .f64 xl) (.float .f64 xh) ∧
   ((g=3∧s24=.int .i64 0∧Has2 wx ob (.float .f64 u0) (.float .f64 v0))∨(g=2∧s24=.int .i64 1∧Has2 wx ob (.float .f64 u2) (.float .f64 v2))∨(g=1∧s24=.int .i64 2∧Has2 wx ob (.float .f64 u4) (.float .f64 v4))))
 case atStart=>exact⟨below_alloc HB _,Y.alloc _,R.alloc _,has2_new _ _ _ _,Or.inl ⟨rfl,rfl,O.alloc _⟩⟩
 case round =>
   obtain⟨HC,Y1,R1,A1,hh⟩:=hrel
   clear X Y R HB O x0 x1 x2 x3 x4
   rcases hh with ⟨rfl,rfl,O1⟩ | ⟨rfl,rfl,O1⟩ | ⟨rfl,rfl,O1⟩
   · obtain⟨y0,y1,y2,y3,y4⟩:=id Y1
     obtain⟨a0,a1,a2,a3,a4⟩:=id A1
     go_wp2_with fail
     have l1:V1.heap.size<wr.heap.size:=a4
     replace HC:=below_alloc HC (.cells #[.float .f64 yl,.float .f64 yh] 22)
     replace Y1:=Y1.alloc (.cells #[.float .f64 yl,.float .f64 yh] 22)
     replace R1:=R1.alloc (.cells #[.float .f64 yl,.float .f64 yh] 22)
     replace A1:=A1.alloc (.cells #[.float .f64 yl,.float .f64 yh] 22)
     replace O1:=O1.alloc (.cells #[.float .f64 yl,.float .f64 yh] 22)
     have B1:=has2_new wr (.float .f64 yl) (.float .f64 yh) 22
     clear y0 y1 y2 y3 y4 a0 a1 a2 a3 a4
     generalize wr.alloc (.cells #[.float .f64 yl,.float .f64 yh] 22)=V2 at *
     generalize wr.heap.size=bb at *
     go_loopg [34] 3 (fun g s34 wy=>Below w.heap.size w wy∧Has2 wy (w.heap.size+1) (.float .f64 yl) (.float .f64 yh)∧Has2 wy (w.heap.size+1+1) (.float .f64 0) (.float .f64 0)∧Has2 wy V1.heap.size (.float .f64 xl) (.float .f64 xh)∧Has2 wy bb (.float .f64 yl) (.float .f64 yh) ∧
       ((g=3∧s34=.int .i64 0∧Has2 wy ob (.float .f64 u0) (.float .f64 v0))∨(g=2∧s34=.int .i64 1∧Has2 wy ob (.float .f64 u1) (.float .f64 v1))∨(g=1∧s34=.int .i64 2∧Has2 wy ob (.float .f64 u2) (.float .f64 v2))))
     case atStart=>exact⟨HC,Y1,R1,A1,B1,Or.inl ⟨by first | rfl | trivial,by first | rfl | trivial,O1⟩⟩
     case round =>
     obtain⟨HD,Y2,R2,A2,B2,hh⟩:=hrel
     clear HC Y1 R1 A1 B1 O1
     rcases hh with ⟨rfl,rfl,O2⟩ | ⟨rfl,rfl,O2⟩ | ⟨rfl,rfl,O2⟩
     · obtain⟨b0,b1,b2,b3,b4⟩:=id B2
       go_upto_region 10 with fail
       clear b0 b1 b2 b3 b4
       have ko0:=fun n:Behind _=>Behind.cell n O2.1 O2.2.2.2.2
       have ko1:=fun n:Behind _=>Behind.cell n O2.2.1 O2.2.2.2.2
       refine tail_behind 8 (by kernel_rfl) (by kernel_rfl) ?_
       simp only [List.take_succ_cons,List.take_zero,List.drop_succ_cons,List.drop_zero]
       repeat (go_big_quiet_step (first
         | (go_at_call 59;with_reducible refine Behind.call (m1 _))
         | (go_at_call 59;with_reducible refine Behind.call (m2 _))
         | (go_at_call 58;with_reducible refine Behind.call (w1 _))))
       refine wpQuiet_nil ?_
       rintro _ ⟨n,rfl⟩
       obtain⟨W,hb1⟩:=n
       dsimp only
       clear ko0 ko1
       replace HD:=later HD hb1;replace Y2:=Y2.keep hb1;replace R2:=R2.keep hb1;replace A2:=A2.keep hb1;replace B2:=B2.keep hb1;replace O2:=O2.keep hb1
       clear hb1
       obtain⟨z0,z1,z2,z3,z4⟩:=id O2
       all_goals
         go_wp2_with fail
         go_roundg 2
         case rel =>
           refine⟨?_,Y2.far (by omega) _ _,R2.far (by omega) _ _,A2.far (by omega) _ _,B2.far (by omega) _ _,Or.inr (Or.inl ⟨by first | rfl | trivial,by first | rfl | trivial,O2.put _ _⟩)⟩
           repeat' (first | (with_reducible exact HD) | (with_reducible refine Below.setCell ?_ ?_ _) | go_size | omega)
         case measure=>omega
     · obtain⟨b0,b1,b2,b3,b4⟩:=id B2
       go_upto_region 10 with fail
       clear b0 b1 b2 b3 b4
       have ko0:=fun n:Behind _=>Behind.cell n O2.1 O2.2.2.2.2
       have ko1:=fun n:Behind _=>Behind.cell n O2.2.1 O2.2.2.2.2
       refine tail_behind 8 (by kernel_rfl) (by kernel_rfl) ?_
       simp only [List.take_succ_cons,List.take_zero,List.drop_succ_cons,List.drop_zero]
       repeat (go_big_quiet_step (first
         | (go_at_call 59;with_reducible refine Behind.call (m3 _))
         | (go_at_call 59;with_reducible refine Behind.call (m4 _))
         | (go_at_call 58;with_reducible refine Behind.call (w2 _))))
       refine wpQuiet_nil ?_
       rintro _ ⟨n,rfl⟩
       obtain⟨W,hb1⟩:=n
       dsimp only
       clear ko0 ko1
       replace HD:=later HD hb1;replace Y2:=Y2.keep hb1;replace R2:=R2.keep hb1;replace A2:=A2.keep hb1;replace B2:=B2.keep hb1;replace O2:=O2.keep hb1
       clear hb1
       obtain⟨z0,z1,z2,z3,z4⟩:=id O2
       all_goals
         go_wp2_with fail
         go_roundg 1
         case rel =>
           refine⟨?_,Y2.far (by omega) _ _,R2.far (by omega) _ _,A2.far (by omega) _ _,B2.far (by omega) _ _,Or.inr (Or.inr ⟨by first | rfl | trivial,by first | rfl | trivial,O2.put _ _⟩)⟩
           repeat' (first | (with_reducible exact HD) | (with_reducible refine Below.setCell ?_ ?_ _) | go_size | omega)
         case measure=>omega
     · go_wp2_with fail
       go_roundg 2
       case rel=>exact⟨HD,Y2,R2,A2,Or.inr (Or.inl ⟨by first | rfl | trivial,by first | rfl | trivial,O2⟩)⟩
       case measure=>omega
   · obtain⟨y0,y1,y2,y3,y4⟩:=id Y1
     obtain⟨a0,a1,a2,a3,a4⟩:=id A1
     go_wp2_with fail
     have l1:V1.heap.size<wr.heap.size:=a4
     replace HC:=below_alloc HC (.cells #[.float .f64 yl,.float .f64 yh] 22)
     replace Y1:=Y1.alloc (.cells #[.float .f64 yl,.float .f64 yh] 22)
     replace R1:=R1.alloc (.cells #[.float .f64 yl,.float .f64 yh] 22)
     replace A1:=A1.alloc (.cells #[.float .f64 yl,.float .f64 yh] 22)
     replace O1:=O1.alloc (.cells #[.float .f64 yl,.float .f64 yh] 22)
     have B1:=has2_new wr (.float .f64 yl) (.float .f64 yh) 22
     clear y0 y1 y2 y3 y4 a0 a1 a2 a3 a4
     generalize wr.alloc (.cells #[.float .f64 yl,.float .f64 yh] 22)=V2 at *
     generalize wr.heap.size=bb at *
     go_loopg [34] 3 (fun g s34 wy=>Below w.heap.size w wy∧Has2 wy (w.heap.size+1) (.float .f64 yl) (.float .f64 yh)∧Has2 wy (w.heap.size+1+1) (.float .f64 0) (.float .f64 0)∧Has2 wy V1.heap.size (.float .f64 xl) (.float .f64 xh)∧Has2 wy bb (.float .f64 yl) (.float .f64 yh) ∧
       ((g=3∧s34=.int .i64 0∧Has2 wy ob (.float .f64 u2) (.float .f64 v2))∨(g=2∧s34=.int .i64 1∧Has2 wy ob (.float .f64 u3) (.float .f64 v3))∨(g=1∧s34=.int .i64 2∧Has2 wy ob (.float .f64 u4) (.float .f64 v4))))
     case atStart=>exact⟨HC,Y1,R1,A1,B1,Or.inl ⟨by first | rfl | trivial,by first | rfl | trivial,O1⟩⟩
     case round =>
     obtain⟨HD,Y2,R2,A2,B2,hh⟩:=hrel
     clear HC Y1 R1 A1 B1 O1
     rcases hh with ⟨rfl,rfl,O2⟩ | ⟨rfl,rfl,O2⟩ | ⟨rfl,rfl,O2⟩
     · obtain⟨b0,b1,b2,b3,b4⟩:=id B2
       go_upto_region 10 with fail
       clear b0 b1 b2 b3 b4
       have ko0:=fun n:Behind _=>Behind.cell n O2.1 O2.2.2.2.2
       have ko1:=fun n:Behind _=>Behind.cell n O2.2.1 O2.2.2.2.2
       refine tail_behind 8 (by kernel_rfl) (by kernel_rfl) ?_
       simp only [List.take_succ_cons,List.take_zero,List.drop_succ_cons,List.drop_zero]
       repeat (go_big_quiet_step (first
         | (go_at_call 59;with_reducible refine Behind.call (m5 _))
         | (go_at_call 59;with_reducible refine Behind.call (m6 _))
         | (go_at_call 58;with_reducible refine Behind.call (w3 _))))
       refine wpQuiet_nil ?_
       rintro _ ⟨n,rfl⟩
       obtain⟨W,hb1⟩:=n
       dsimp only
       clear ko0 ko1
       replace HD:=later HD hb1;replace Y2:=Y2.keep hb1;replace R2:=R2.keep hb1;replace A2:=A2.keep hb1;replace B2:=B2.keep hb1;replace O2:=O2.keep hb1
       clear hb1
       obtain⟨z0,z1,z2,z3,z4⟩:=id O2
       all_goals
         go_wp2_with fail
         go_roundg 2
         case rel =>
           refine⟨?_,Y2.far (by omega) _ _,R2.far (by omega) _ _,A2.far (by omega) _ _,B2.far (by omega) _ _,Or.inr (Or.inl ⟨by first | rfl | trivial,by first | rfl | trivial,O2.put _ _⟩)⟩
           repeat' (first | (with_reducible exact HD) | (with_reducible refine Below.setCell ?_ ?_ _) | go_size | omega)
         case measure=>omega
     · obtain⟨b0,b1,b2,b3,b4⟩:=id B2
       go_upto_region 10 with fail
       clear b0 b1 b2 b3 b4
       have ko0:=fun n:Behind _=>Behind.cell n O2.1 O2.2.2.2.2
       have ko1:=fun n:Behind _=>Behind.cell n O2.2.1 O2.2.2.2.2
       refine tail_behind 8 (by kernel_rfl) (by kernel_rfl) ?_
       simp only [List.take_succ_cons,List.take_zero,List.drop_succ_cons,List.drop_zero]
       repeat (go_big_quiet_step (first
         | (go_at_call 59;with_reducible refine Behind.call (m7 _))
         | (go_at_call 59;with_reducible refine Behind.call (m8 _))
         | (go_at_call 58;with_reducible refine Behind.call (w4 _))))
       refine wpQuiet_nil ?_
       rintro _ ⟨n,rfl⟩
       obtain⟨W,hb1⟩:=n
       dsimp only
       clear ko0 ko1
       replace HD:=later HD hb1;replace Y2:=Y2.keep hb1;replace R2:=R2.keep hb1;replace A2:=A2.keep hb1;replace B2:=B2.keep hb1;replace O2:=O2.keep hb1
       clear hb1
       obtain⟨z0,z1,z2,z3,z4⟩:=id O2
       all_goals
         go_wp2_with fail
         go_roundg 1
         case rel =>
           refine⟨?_,Y2.far (by omega) _ _,R2.far (by omega) _ _,A2.far (by omega) _ _,B2.far (by omega) _ _,Or.inr (Or.inr ⟨by first | rfl | trivial,by first | rfl | trivial,O2.put _ _⟩)⟩
           repeat' (first | (with_reducible exact HD) | (with_reducible refine Below.setCell ?_ ?_ _) | go_size | omega)
         case measure=>omega
     · go_wp2_with fail
       go_roundg 1
       case rel=>exact⟨HD,Y2,R2,A2,Or.inr (Or.inr ⟨by first | rfl | trivial,by first | rfl | trivial,O2⟩)⟩
       case measure=>omega
   · obtain⟨o0,o1,o2,o3,o4⟩:=id O1
     go_wp2_with (go_at_call 60;refine (ce _).mono ?_;rintro _ wz ⟨rfl,hb1⟩;replace HC:=later HC hb1;replace R1:=R1.keep hb1;clear hb1;obtain⟨z0,z1,z2,z3,z4⟩:=id R1)
     refine bodyPost_ret (v:=.agg #[.float .f64 r1,.float .f64 r2]) (by simp [results,Tryz.results21,go_sem, *]) rfl ⟨rfl, ?_⟩
     repeat' (first | (with_reducible exact HC) | (with_reducible refine Below.setCell ?_ ?_ _) | go_size)
end Go.Proofs.YtopfabemfbdccaaGreat
