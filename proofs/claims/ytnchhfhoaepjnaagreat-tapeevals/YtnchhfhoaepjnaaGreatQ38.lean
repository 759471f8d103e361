/- The walk of the reference's Div of intervals. -/
import Derived.Test.YtnchhfhoaepjnaaGreatQ37
import Derived.Test.YtnchhfhoaepjnaaGreatQ22
namespace Go.Proofs.YtnchhfhoaepjnaaGreat
open Go.ChangeShapes Go.WideShapes Go.ChangeAt Go.RowKit
set_option maxHeartbeats 16000000 in
set_option maxRecDepth 100000 in
theorem rdiv_core (xl xh yl yh p1 p2 q1 q2 n1 n2 m1 m2 s1 s2 t1 t2:Nat) (b1 b2:Bool)
   (c1:∀w,Calls Tryz.prog 39 #[.agg #[.float .f64 xl,.float .f64 xh]] w fun e w'=>e=.returned (.bool false)∧Below w.heap.size w w')
   (c2:∀w,Calls Tryz.prog 39 #[.agg #[.float .f64 yl,.float .f64 yh]] w fun e w'=>e=.returned (.bool false)∧Below w.heap.size w w')
   (o1:(FloatKind.f64.format.order yh 0==some .gt)=b1) (o2:(FloatKind.f64.format.order yl 0==some .lt)=b2)
   (cn:b2=true→∀w,Calls Tryz.prog 53 #[.agg #[.float .f64 xl,.float .f64 xh]] w fun e w'=>e=.returned (.agg #[.float .f64 n1,.float .f64 n2])∧Below w.heap.size w w')
   (cm:b2=true→∀w,Calls Tryz.prog 53 #[.agg #[.float .f64 yl,.float .f64 yh]] w fun e w'=>e=.returned (.agg #[.float .f64 m1,.float .f64 m2])∧Below w.heap.size w w')
   (co:b1=true→∀w,Calls Tryz.prog 95 #[.agg #[.float .f64 xl,.float .f64 xh],.agg #[.float .f64 yl,.float .f64 yh]] w fun e w'=>e=.returned (.agg #[.float .f64 p1,.float .f64 p2])∧Below w.heap.size w w')
   (cp:b2=true→∀w,Calls Tryz.prog 95 #[.agg #[.float .f64 n1,.float .f64 n2],.agg #[.float .f64 m1,.float .f64 m2]] w fun e w'=>e=.returned (.agg #[.float .f64 q1,.float .f64 q2])∧Below w.heap.size w w')
   (ch:b1=true→∀w,Calls Tryz.prog 94 #[.agg #[.float .f64 (infI 1),.float .f64 (infI (-1))],.agg #[.float .f64 p1,.float .f64 p2]] w fun e w'=>e=.returned (.agg #[.float .f64 s1,.float .f64 s2])∧Below w.heap.size w w')
   (hs1:b1=false→s1=infI 1) (hs2:b1=false→s2=infI (-1))
   (ci:b2=true→∀w,Calls Tryz.prog 94 #[.agg #[.float .f64 s1,.float .f64 s2],.agg #[.float .f64 q1,.float .f64 q2]] w fun e w'=>e=.returned (.agg #[.float .f64 t1,.float .f64 t2])∧Below w.heap.size w w')
   (ht1:b2=false→t1=s1) (ht2:b2=false→t2=s2) (w:World) :
   Calls Tryz.prog 52 #[.agg #[.float .f64 xl,.float .f64 xh],.agg #[.float .f64 yl,.float .f64 yh]] w fun e w'=>e=.returned (.agg #[.float .f64 t1,.float .f64 t2])∧Below w.heap.size w w':=by
 obtain⟨X,Y,R,HB⟩:=enter2 w (.float .f64 xl) (.float .f64 xh) (.float .f64 yl) (.float .f64 yh) 46
 have ne1:w.heap.size+1+1≠w.heap.size:=by omega
 have ne2:w.heap.size≠w.heap.size+1+1:=by omega
 go_enter Tryz.func52,Tryz.ntmps52
 go_wp2_with fail
 generalize ((w.alloc (.cells #[.float .f64 xl,.float .f64 xh] 46)).alloc (.cells #[.float .f64 yl,.float .f64 yh] 46)).alloc (.cells #[.float .f64 0,.float .f64 0] 46)=V0 at *
 obtain⟨x0,x1,x2,x3,x4⟩:=id X
 obtain⟨y0,y1,y2,y3,y4⟩:=id Y
 go_upto_region 4 with (first
   | (go_at_call_of 39 (Value.agg #[.float .f64 xl,.float .f64 xh]);refine (c1 _).mono ?_;rintro _ wa ⟨rfl,hb1⟩;replace X:=X.keep hb1;replace Y:=Y.keep hb1;replace R:=R.keep hb1;replace HB:=later HB hb1;clear hb1 x0 x1 x2 x3 x4 y0 y1 y2 y3 y4
      obtain⟨x0,x1,x2,x3,x4⟩:=id X
      obtain⟨y0,y1,y2,y3,y4⟩:=id Y)
   | (go_at_call_of 39 (Value.agg #[.float .f64 yl,.float .f64 yh]);refine (c2 _).mono ?_;rintro _ wa ⟨rfl,hb1⟩;replace X:=X.keep hb1;replace Y:=Y.keep hb1;replace R:=R.keep hb1;replace HB:=later HB hb1;clear hb1 x0 x1 x2 x3 x4 y0 y1 y2 y3 y4
      obtain⟨x0,x1,x2,x3,x4⟩:=id X
      obtain⟨y0,y1,y2,y3,y4⟩:=id Y)
   | (go_at_call 89;refine (rempty_w _).mono ?_;rintro _ wb ⟨rfl,hb1⟩;replace X:=X.keep hb1;replace Y:=Y.keep hb1;replace R:=R.keep hb1;replace HB:=later HB hb1;clear hb1 x0 x1 x2 x3 x4 y0 y1 y2 y3 y4
      obtain⟨x0,x1,x2,x3,x4⟩:=id X
      obtain⟨y0,y1,y2,y3,y4⟩:=id Y))
 have lt0:w.heap.size+1+1<wb.heap.size:=R.2.2.2.2
 have O:=has2_new wb (.float .f64 (infI 1)) (.float .f64 (infI (-1))) 46
 replace X:=X.alloc (.cells #[.float .f64 (infI 1),.float .f64 (infI (-1))] 46)
 replace Y:=Y.alloc (.cells #[.float .f64 (infI 1),.float .f64 (infI (-1))] 46)
 replace R:=R.alloc (.cells #[.float .f64 (infI 1),.float .f64 (infI (-1))] 46)
 replace HB:=below_alloc HB (.cells #[.float .f64 (infI 1),.float .f64 (infI (-1))] 46)
 clear x0 x1 x2 x3 x4 y0 y1 y2 y3 y4 c1 c2
 generalize wb.alloc (.cells #[.float .f64 (infI 1),.float .f64 (infI (-1))] 46)=V1 at *
 generalize wb.heap.size=ob at *
 clear wb
 have ne5:ob≠w.heap.size+1+1:=by omega
 have ne6:w.heap.size+1+1≠ob:=by omega
 obtain⟨y0,y1,y2,y3,y4⟩:=id Y
 cases b1
 case' false =>
   have f1:=hs1 rfl
   have f2:=hs2 rfl
   rw [←f1,←f2] at O
   clear co ch hs1 hs2 f1 f2
 case' true =>
   replace co:=co rfl
   replace ch:=ch rfl
   clear hs1 hs2
   go_upto_region 5 with fail
   have kx0:=fun n:Behind V1=>n.cell X.1 X.2.2.2.2
   have kx1:=fun n:Behind V1=>n.cell X.2.1 X.2.2.2.2
   have ky0:=fun n:Behind V1=>n.cell Y.1 Y.2.2.2.2
   have ky1:=fun n:Behind V1=>n.cell Y.2.1 Y.2.2.2.2
   have ko0:=fun n:Behind V1=>n.cell O.1 O.2.2.2.2
   have ko1:=fun n:Behind V1=>n.cell O.2.1 O.2.2.2.2
   refine tail_behind 5 (by kernel_rfl) (by kernel_rfl) ?_
   simp only [List.take_succ_cons,List.take_zero,List.drop_succ_cons,List.drop_zero]
   repeat (go_big_quiet_step (first
     | (go_at_call 95;with_reducible refine Behind.call (co _))
     | (go_at_call 94;with_reducible refine Behind.call (ch _))))
   refine wpQuiet_nil ?_
   rintro _ ⟨n,rfl⟩
   obtain⟨W,hb⟩:=n
   clear kx0 kx1 ky0 ky1 ko0 ko1 y0 y1 y2 y3 y4
   replace X:=X.keep hb
   replace Y:=Y.keep hb
   replace R:=R.keep hb
   replace O:=O.keep hb
   replace HB:=later HB hb
   obtain⟨z0,z1,z2,z3,z4⟩:=id O
   go_upto_region 6 with fail
   replace X:=X.far (show ob≠_ by omega) (.float .f64 s1) (.float .f64 s2)
   replace Y:=Y.far (show ob≠_ by omega) (.float .f64 s1) (.float .f64 s2)
   replace R:=R.far (show ob≠_ by omega) (.float .f64 s1) (.float .f64 s2)
   replace O:=O.put (.float .f64 s1) (.float .f64 s2)
   replace HB:Below w.heap.size w ((W.setCell ⟨ob,0,none⟩ (.float .f64 s1)).setCell ⟨ob,1,none⟩ (.float .f64 s2)):=by
     repeat' (first | (with_reducible exact HB) | (with_reducible refine Below.setCell ?_ ?_ _) | go_size | omega)
   clear z0 z1 z2 z3 z4 hb
   generalize (W.setCell ⟨ob,0,none⟩ (.float .f64 s1)).setCell ⟨ob,1,none⟩ (.float .f64 s2)=V2 at *
   clear W
   clear V1
   obtain⟨V1,rfl⟩:∃V1,V1=V2:=⟨_,rfl⟩
   obtain⟨y0,y1,y2,y3,y4⟩:=id Y
 all_goals
   cases b2
   · have e1:=ht1 rfl
     have e2:=ht2 rfl
     subst e1 e2
     obtain⟨o0,o1,o2,o3,o4⟩:=id O
     obtain⟨r0,r1,r2,r3,r4⟩:=id R
     go_wp2_with fail
     refine bodyPost_ret (v:=.agg #[.float .f64 t1,.float .f64 t2]) (by simp [results,Tryz.results52,go_sem, *]) rfl ⟨rfl, ?_⟩
     repeat' (first | (with_reducible exact HB) | (with_reducible refine Below.setCell ?_ ?_ _) | go_size)
   · replace cn:=cn rfl
     replace cm:=cm rfl
     replace cp:=cp rfl
     replace ci:=ci rfl
     clear ht1 ht2
     go_upto_region 7 with fail
     clear y0 y1 y2 y3 y4
     have kx0:=fun n:Behind V1=>n.cell X.1 X.2.2.2.2
     have kx1:=fun n:Behind V1=>n.cell X.2.1 X.2.2.2.2
     have ky0:=fun n:Behind V1=>n.cell Y.1 Y.2.2.2.2
     have ky1:=fun n:Behind V1=>n.cell Y.2.1 Y.2.2.2.2
     have ko0:=fun n:Behind V1=>n.cell O.1 O.2.2.2.2
     have ko1:=fun n:Behind V1=>n.cell O.2.1 O.2.2.2.2
     refine tail_behind 7 (by kernel_rfl) (by kernel_rfl) ?_
     simp only [List.take_succ_cons,List.take_zero,List.drop_succ_cons,List.drop_zero]
     repeat (go_big_quiet_step (first
       | (go_at_call 53;with_reducible refine Behind.call (cn _))
       | (go_at_call 53;with_reducible refine Behind.call (cm _))
       | (go_at_call 95;with_reducible refine Behind.call (cp _))
       | (go_at_call 94;with_reducible refine Behind.call (ci _))))
     refine wpQuiet_nil ?_
     rintro _ ⟨n,rfl⟩
     obtain⟨W,hb1⟩:=n
     dsimp only
     clear kx0 kx1 ky0 ky1 ko0 ko1
     replace R:=R.keep hb1;replace O:=O.keep hb1;replace HB:=later HB hb1;clear hb1
     obtain⟨o0,o1,o2,o3,o4⟩:=id O
     obtain⟨r0,r1,r2,r3,r4⟩:=id R
     go_wp2_with fail
     refine bodyPost_ret (v:=.agg #[.float .f64 t1,.float .f64 t2]) (by simp [results,Tryz.results52,go_sem, *]) rfl ⟨rfl, ?_⟩
     repeat' (first | (with_reducible exact HB) | (with_reducible refine Below.setCell ?_ ?_ _) | go_size | omega)
end Go.Proofs.YtnchhfhoaepjnaaGreat
