/- The walks of the reference's Product and Sum. The walk of the reference's Sum. The reference's numbers by what they are worth: Sign, Order, Product and Sum again. -/
import Derived.Test.YtgocelaghggpmaaDoorKt14
namespace Go.Proofs.YtgocelaghggpmaaDoor
open Go.ChangeShapes Go.WideShapes Go.ChangeAt Go.RowKit
theorem big_nil (w:World):BigIs w (.slice none 0 0) 0:=⟨[],Digs.nil,trimmed_nil,rfl,World.ownsRow_nil _ _ _ _⟩
set_option maxHeartbeats 1000000 in
theorem prod_w (g h:Bool) (va vb:Value) (m n K:Nat) (e f:Int) (hK:K≤1000000) (hm:m<2^K) (hn:n<2^K) (he:-100000≤e∧e≤100000) (hf:-100000≤f∧f≤100000) (w:World) (ha:BigIs w va m) (hb:BigIs w vb n) :
   Calls Tryd.prog 125 #[.agg #[.bool g,va,.int .i64 e],.agg #[.bool h,vb,.int .i64 f]] w fun r w' =>
     (∃s v E,r=.returned (.agg #[.bool s,v,.int .i64 E])∧BigIs w' v (m*n)∧(m*n=0→s=false∧E=0)∧(m*n≠0→s=(g != h)∧E=e+f))∧Below w.heap.size w w':=by
 obtain⟨ao,l,ca,rfl, -⟩:=ha.shape
 obtain⟨bo,k,cc,rfl, -⟩:=hb.shape
 have cb:=fun W (hW:Below w.heap.size w W)=>by_w _ _ m n K hK hm hn W (ha.keep hW) (hb.keep hW)
 clear hm hn
 generalize m*n=p at *
 by_cases h0:p=0
 · subst h0
   go_enter Tryd.func125,Tryd.ntmps125
   go_wp2_with
    (go_at_call 28;refine (cb _ (by go_grown)).mono ?_;rintro _ w1 ⟨⟨v,rfl,hv⟩,hb1⟩
     obtain⟨o1,l1,p1,rfl,hl⟩:=hv.shape
     have hl0:l1=0:=hl.2 rfl
     subst hl0
     have R:Has3 w1 (w.heap.size+1+1) (.bool false) (.slice none 0 0) (.int .i64 0):=Has3.keep ⟨by go_simp,by go_simp,by go_simp,by go_simp,by go_simp,by go_simp,by go_size⟩ hb1
     obtain⟨z0,z1,z2,z3,z4,z5,z6⟩:=R
     have HB:Below w.heap.size w w1:=later (by go_grown) hb1)
   refine bodyPost_ret (v:=.agg #[.bool false,.slice none 0 0,.int .i64 0]) (by simp [results,Tryd.results125,go_sem, *]) rfl ⟨⟨_,_,_,rfl,big_nil _,fun _=>⟨rfl,rfl⟩,fun c=>absurd rfl c⟩, ?_⟩
   repeat' (first | (with_reducible exact HB) | (with_reducible refine Below.setCell ?_ ?_ _) | go_size)
 · go_enter Tryd.func125,Tryd.ntmps125
   go_wp2_with
    (go_at_call 28;refine (cb _ (by go_grown)).mono ?_;rintro _ w1 ⟨⟨v,rfl,hv⟩,hb1⟩
     obtain⟨o1,l1,p1,rfl,hl⟩:=hv.shape
     have hl0:((l1:Int)==0)=false:=by rw [beq_eq_false_iff_ne];intro c;exact h0 (hl.1 (by omega))
     clear hl
     have X:Has3 w1 w.heap.size (.bool g) (.slice ao l ca) (.int .i64 e):=Has3.keep ⟨by go_simp,by go_simp,by go_simp,by go_simp,by go_simp,by go_simp,by go_size⟩ hb1
     have Y:Has3 w1 (w.heap.size+1) (.bool h) (.slice bo k cc) (.int .i64 f):=Has3.keep ⟨by go_simp,by go_simp,by go_simp,by go_simp,by go_simp,by go_simp,by go_size⟩ hb1
     have R:Has3 w1 (w.heap.size+1+1) (.bool false) (.slice none 0 0) (.int .i64 0):=Has3.keep ⟨by go_simp,by go_simp,by go_simp,by go_simp,by go_simp,by go_simp,by go_size⟩ hb1
     obtain⟨x0,x1,x2, -⟩:=X
     obtain⟨y0,y1,y2, -⟩:=Y
     obtain⟨z0,z1,z2,z3,z4,z5,z6⟩:=R
     obtain⟨-, -,B2⟩:=boxed3 w _ _ _
     replace B2:=B2.keep hb1
     have HB:Below w.heap.size w w1:=later (by go_grown) hb1)
   refine bodyPost_ret (v:=.agg #[.bool (!(g==h)),.slice o1 l1 p1,.int .i64 (e+f)]) (by simp [results,Tryd.results125,go_sem, *]) rfl ⟨⟨_,_,_,rfl, ?_,fun c=>absurd c h0,fun _=>⟨by cases g <;> cases h <;> rfl,rfl⟩⟩, ?_⟩
   all_goals repeat' (first | (with_reducible exact hv) | (with_reducible exact HB) | (with_reducible exact B2) | (with_reducible refine BigIs.put ?_ ?_ _ _) | (with_reducible refine Boxed.set ?_ _ _ _) | (with_reducible refine Below.setCell ?_ ?_ _) | go_size)
theorem sgnd_mul (g:Bool) (A t:Nat):sgnd g (A*t)=sgnd g A*(t:Int):=by
 unfold sgnd;cases g <;> simp [Int.neg_mul]
theorem sum_zero_a (g h:Bool) (va vb:Value) (n:Nat) (e f:Int) (w:World) (ha:BigIs w va 0) (hb:BigIs w vb n) :
   Calls Tryd.prog 83 #[.agg #[.bool g,va,.int .i64 e],.agg #[.bool h,vb,.int .i64 f]] w fun r w' =>
     r=.returned (.agg #[.bool h,vb,.int .i64 f])∧Below w.heap.size w w':=by
 obtain⟨ao,l,ca,rfl,hl⟩:=ha.shape
 obtain⟨bo,k,cc,rfl, -⟩:=hb.shape
 have:l=0:=hl.2 rfl
 subst this
 go_enter Tryd.func83,Tryd.ntmps83
 go_wp2
 refine bodyPost_ret (v:=.agg #[.bool h,.slice bo k cc,.int .i64 f]) (by simp [results,Tryd.results83,go_sem, *]) rfl ⟨rfl,by go_grown⟩
theorem sum_zero_b (g h:Bool) (va vb:Value) (m:Nat) (e f:Int) (hm:m≠0) (w:World) (ha:BigIs w va m) (hb:BigIs w vb 0) :
   Calls Tryd.prog 83 #[.agg #[.bool g,va,.int .i64 e],.agg #[.bool h,vb,.int .i64 f]] w fun r w' =>
     r=.returned (.agg #[.bool g,va,.int .i64 e])∧Below w.heap.size w w':=by
 obtain⟨ao,l,ca,rfl,hl⟩:=ha.shape
 obtain⟨bo,k,cc,rfl,hk⟩:=hb.shape
 have:k=0:=hk.2 rfl
 subst this
 have hl0:((l:Int)==0)=false:=by rw [beq_eq_false_iff_ne];intro c;exact hm (hl.1 (by omega))
 clear hl hk
 go_enter Tryd.func83,Tryd.ntmps83
 go_wp2
 refine bodyPost_ret (v:=.agg #[.bool g,.slice ao l ca,.int .i64 e]) (by simp [results,Tryd.results83,go_sem, *]) rfl ⟨rfl,by go_grown⟩
set_option maxHeartbeats 2000000 in
theorem sum_same (g h:Bool) (ao bo:Option Addr) (l k ca cc m' n':Nat) (e f E:Int) (w:World) (hl:((l:Int)==0)=false) (hk:((k:Int)==0)=false)
   (cl:∀W,Below w.heap.size w W→Calls Tryd.prog 127 #[.agg #[.bool g,.slice ao l ca,.int .i64 e],.agg #[.bool h,.slice bo k cc,.int .i64 f]] W fun r w' =>
     (∃v1 v2,r=.returned (.tuple #[.agg #[.bool g,v1,.int .i64 E],.agg #[.bool h,v2,.int .i64 E]])∧BigIs w' v1 m'∧BigIs w' v2 n')∧Below W.heap.size W w')
   (M:Nat) (cp:∀W v1 v2,BigIs W v1 m'→BigIs W v2 n'→Calls Tryd.prog 55 #[v1,v2] W fun r w'=>(∃v',r=.returned v'∧BigIs w' v' M)∧Below W.heap.size W w')
   (hgh:g=h) :
   Calls Tryd.prog 83 #[.agg #[.bool g,.slice ao l ca,.int .i64 e],.agg #[.bool h,.slice bo k cc,.int .i64 f]] w fun r w' =>
     (∃v,r=.returned (.agg #[.bool g,v,.int .i64 E])∧BigIs w' v M)∧Below w.heap.size w w':=by
 subst hgh
 go_enter Tryd.func83,Tryd.ntmps83
 go_upto_region 6 with
  (go_at_call 127;refine (cl _ (by go_grown)).mono ?_;rintro _ w4 ⟨⟨v1,v2,rfl,hv1,hv2⟩,hb1⟩
   obtain⟨o1,l1,p1,rfl, -⟩:=hv1.shape
   obtain⟨o2,l2,p2,rfl, -⟩:=hv2.shape
   have R:Has3 w4 (w.heap.size+1+1) (.bool false) (.slice none 0 0) (.int .i64 0):=Has3.keep ⟨by go_simp,by go_simp,by go_simp,by go_simp,by go_simp,by go_simp,by go_size⟩ hb1
   obtain⟨-, -,B2⟩:=boxed3 w _ _ _
   replace B2:=B2.keep hb1
   have HB:Below w.heap.size w w4:=later (by go_grown) hb1)
 clear cl hb1
 have hlt:=R.2.2.2.2.2.2
 have hz:Below w4.heap.size w4 ((w4.alloc (.cells #[.bool g,.slice o1 l1 p1,.int .i64 E] 76)).alloc (.cells #[.bool g,.slice o2 l2 p2,.int .i64 E] 76)):=by go_grown
 have C:Has3 ((w4.alloc (.cells #[.bool g,.slice o1 l1 p1,.int .i64 E] 76)).alloc (.cells #[.bool g,.slice o2 l2 p2,.int .i64 E] 76)) w4.heap.size (.bool g) (.slice o1 l1 p1) (.int .i64 E):=⟨by go_simp,by go_simp,by go_simp,by go_simp,by go_simp,by go_simp,by go_size⟩
 have D:Has3 ((w4.alloc (.cells #[.bool g,.slice o1 l1 p1,.int .i64 E] 76)).alloc (.cells #[.bool g,.slice o2 l2 p2,.int .i64 E] 76)) (w4.heap.size+1) (.bool g) (.slice o2 l2 p2) (.int .i64 E):=⟨by go_simp,by go_simp,by go_simp,by go_simp,by go_simp,by go_simp,by go_size⟩
 replace R:=R.keep hz
 replace B2:=B2.keep hz
 replace hv1:=hv1.keep hz
 replace hv2:=hv2.keep hz
 replace HB:=later HB hz
 clear hz
 generalize ((w4.alloc (.cells #[.bool g,.slice o1 l1 p1,.int .i64 E] 76)).alloc (.cells #[.bool g,.slice o2 l2 p2,.int .i64 E] 76))=W at *
 generalize w4.heap.size=q at *
 have ne1:q≠w.heap.size+1+1:=by omega
 have ne2:q+1≠w.heap.size+1+1:=by omega
 have ne3:w.heap.size+1+1≠q:=by omega
 have ne4:w.heap.size+1+1≠q+1:=by omega
 have x0:=C.1
 have x1:=C.2.1
 have x2:=C.2.2.1
 have y0:=D.1
 have y1:=D.2.1
 go_upto_region 7 with fail
 clear x0 x1 x2 y0 y1
 replace C:=C.drew
 replace D:=D.drew
 replace R:=R.drew
 replace B2:Boxed W.drew (w.heap.size+1+1):=B2
 replace hv1:=hv1.drew
 replace hv2:=hv2.drew
 replace HB:=HB.drew
 go_region_held3 (fun w'=>w'.cell? ⟨q,0,none⟩=some (.bool g)∧w'.cell? ⟨q+1,0,none⟩=some (.bool g)∧w'.cell? ⟨q,1,none⟩=some (.slice o1 l1 p1)∧w'.cell? ⟨q+1,1,none⟩=some (.slice o2 l2 p2)∧w'.cell? ⟨q,2,none⟩=some (.int .i64 E)) (first | exact⟨C.1,D.1,C.2.1,D.2.1,C.2.2.1⟩ | exact⟨(C.far ne3 _ _ _).1,(D.far ne4 _ _ _).1,(C.far ne3 _ _ _).2.1,(D.far ne4 _ _ _).2.1,(C.far ne3 _ _ _).2.2.1⟩ | go_keep)
   ((go_at_call 55;refine (cp _ _ _ hv1 hv2).mono ?_;rintro _ w6 ⟨⟨v3,rfl,hv3⟩,hb6⟩
     obtain⟨o3,l3,p3,rfl, -⟩:=hv3.shape
     replace C:=C.keep hb6
     replace D:=D.keep hb6
     replace R:=R.keep hb6
     replace B2:=B2.keep hb6
     replace HB:=later HB hb6
     obtain⟨z0,z1,z2,z3,z4,z5,z6⟩:=R))
 all_goals
   go_wp2_with fail
   refine bodyPost_ret (v:=.agg #[.bool g,.slice o3 l3 p3,.int .i64 E]) (by simp [results,Tryd.results83,go_sem, *]) rfl ⟨⟨_,rfl, ?_⟩, ?_⟩
   all_goals repeat' (first | (with_reducible exact hv3) | (with_reducible exact HB) | (with_reducible exact B2) | (with_reducible refine BigIs.put ?_ ?_ _ _) | (with_reducible refine Boxed.set ?_ _ _ _) | (with_reducible refine Below.setCell ?_ ?_ _) | go_size)
set_option maxHeartbeats 2000000 in
theorem sum_eq (g h:Bool) (ao bo:Option Addr) (l k ca cc m' n':Nat) (e f E:Int) (w:World) (hl:((l:Int)==0)=false) (hk:((k:Int)==0)=false)
   (cl:∀W,Below w.heap.size w W→Calls Tryd.prog 127 #[.agg #[.bool g,.slice ao l ca,.int .i64 e],.agg #[.bool h,.slice bo k cc,.int .i64 f]] W fun r w' =>
     (∃v1 v2,r=.returned (.tuple #[.agg #[.bool g,v1,.int .i64 E],.agg #[.bool h,v2,.int .i64 E]])∧BigIs w' v1 m'∧BigIs w' v2 n')∧Below W.heap.size W w')
   (t:Int) (cm:∀W v1 v2,BigIs W v1 m'→BigIs W v2 n'→Calls Tryd.prog 62 #[v1,v2] W fun r w'=>r=.returned (.int .i64 t)∧Below W.heap.size W w')
   (hgh:(g==h)=false) (ht:t=0) :
   Calls Tryd.prog 83 #[.agg #[.bool g,.slice ao l ca,.int .i64 e],.agg #[.bool h,.slice bo k cc,.int .i64 f]] w fun r w' =>
     (∃v,r=.returned (.agg #[.bool false,v,.int .i64 0])∧BigIs w' v 0)∧Below w.heap.size w w':=by
 subst ht
 go_enter Tryd.func83,Tryd.ntmps83
 go_upto_region 6 with
  (go_at_call 127;refine (cl _ (by go_grown)).mono ?_;rintro _ w4 ⟨⟨v1,v2,rfl,hv1,hv2⟩,hb1⟩
   obtain⟨o1,l1,p1,rfl, -⟩:=hv1.shape
   obtain⟨o2,l2,p2,rfl, -⟩:=hv2.shape
   have R:Has3 w4 (w.heap.size+1+1) (.bool false) (.slice none 0 0) (.int .i64 0):=Has3.keep ⟨by go_simp,by go_simp,by go_simp,by go_simp,by go_simp,by go_simp,by go_size⟩ hb1
   obtain⟨-, -,B2⟩:=boxed3 w _ _ _
   replace B2:=B2.keep hb1
   have HB:Below w.heap.size w w4:=later (by go_grown) hb1)
 clear cl hb1
 have hlt:=R.2.2.2.2.2.2
 have hz:Below w4.heap.size w4 ((w4.alloc (.cells #[.bool g,.slice o1 l1 p1,.int .i64 E] 76)).alloc (.cells #[.bool h,.slice o2 l2 p2,.int .i64 E] 76)):=by go_grown
 have C:Has3 ((w4.alloc (.cells #[.bool g,.slice o1 l1 p1,.int .i64 E] 76)).alloc (.cells #[.bool h,.slice o2 l2 p2,.int .i64 E] 76)) w4.heap.size (.bool g) (.slice o1 l1 p1) (.int .i64 E):=⟨by go_simp,by go_simp,by go_simp,by go_simp,by go_simp,by go_simp,by go_size⟩
 have D:Has3 ((w4.alloc (.cells #[.bool g,.slice o1 l1 p1,.int .i64 E] 76)).alloc (.cells #[.bool h,.slice o2 l2 p2,.int .i64 E] 76)) (w4.heap.size+1) (.bool h) (.slice o2 l2 p2) (.int .i64 E):=⟨by go_simp,by go_simp,by go_simp,by go_simp,by go_simp,by go_simp,by go_size⟩
 replace R:=R.keep hz
 replace B2:=B2.keep hz
 replace hv1:=hv1.keep hz
 replace hv2:=hv2.keep hz
 replace HB:=later HB hz
 clear hz
 generalize ((w4.alloc (.cells #[.bool g,.slice o1 l1 p1,.int .i64 E] 76)).alloc (.cells #[.bool h,.slice o2 l2 p2,.int .i64 E] 76))=W at *
 generalize w4.heap.size=q at *
 have ne1:q≠w.heap.size+1+1:=by omega
 have ne2:q+1≠w.heap.size+1+1:=by omega
 have ne3:w.heap.size+1+1≠q:=by omega
 have ne4:w.heap.size+1+1≠q+1:=by omega
 have x0:=C.1
 have x1:=C.2.1
 have x2:=C.2.2.1
 have y0:=D.1
 have y1:=D.2.1
 go_wp2_with
  (go_at_call 62;refine (cm _ _ _ hv1 hv2).mono ?_;rintro _ w5 ⟨rfl,hb5⟩
   replace C:=C.keep hb5
   replace D:=D.keep hb5
   replace R:=R.keep hb5
   replace B2:=B2.keep hb5
   replace hv1:=hv1.keep hb5
   replace hv2:=hv2.keep hb5
   replace HB:=later HB hb5
   obtain⟨z0,z1,z2,z3,z4,z5,z6⟩:=R)
 refine bodyPost_ret (v:=.agg #[.bool false,.slice none 0 0,.int .i64 0]) (by simp [results,Tryd.results83,go_sem, *]) rfl ⟨⟨_,rfl,big_nil _⟩, ?_⟩
 repeat' (first | (with_reducible exact HB) | (with_reducible refine Below.setCell ?_ ?_ _) | go_size)
set_option maxHeartbeats 2000000 in
theorem sum_gt (g h:Bool) (ao bo:Option Addr) (l k ca cc m' n':Nat) (e f E:Int) (w:World) (hl:((l:Int)==0)=false) (hk:((k:Int)==0)=false)
   (cl:∀W,Below w.heap.size w W→Calls Tryd.prog 127 #[.agg #[.bool g,.slice ao l ca,.int .i64 e],.agg #[.bool h,.slice bo k cc,.int .i64 f]] W fun r w' =>
     (∃v1 v2,r=.returned (.tuple #[.agg #[.bool g,v1,.int .i64 E],.agg #[.bool h,v2,.int .i64 E]])∧BigIs w' v1 m'∧BigIs w' v2 n')∧Below W.heap.size W w')
   (M:Nat) (cp:∀W v1 v2,BigIs W v1 m'→BigIs W v2 n'→Calls Tryd.prog 112 #[v1,v2] W fun r w'=>(∃v',r=.returned v'∧BigIs w' v' M)∧Below W.heap.size W w')
   (t:Int) (cm:∀W v1 v2,BigIs W v1 m'→BigIs W v2 n'→Calls Tryd.prog 62 #[v1,v2] W fun r w'=>r=.returned (.int .i64 t)∧Below W.heap.size W w')
   (hgh:(g==h)=false) (ht:t=1) :
   Calls Tryd.prog 83 #[.agg #[.bool g,.slice ao l ca,.int .i64 e],.agg #[.bool h,.slice bo k cc,.int .i64 f]] w fun r w' =>
     (∃v,r=.returned (.agg #[.bool g,v,.int .i64 E])∧BigIs w' v M)∧Below w.heap.size w w':=by
 subst ht
 go_enter Tryd.func83,Tryd.ntmps83
 go_upto_region 6 with
  (go_at_call 127;refine (cl _ (by go_grown)).mono ?_;rintro _ w4 ⟨⟨v1,v2,rfl,hv1,hv2⟩,hb1⟩
   obtain⟨o1,l1,p1,rfl, -⟩:=hv1.shape
   obtain⟨o2,l2,p2,rfl, -⟩:=hv2.shape
   have R:Has3 w4 (w.heap.size+1+1) (.bool false) (.slice none 0 0) (.int .i64 0):=Has3.keep ⟨by go_simp,by go_simp,by go_simp,by go_simp,by go_simp,by go_simp,by go_size⟩ hb1
   obtain⟨-, -,B2⟩:=boxed3 w _ _ _
   replace B2:=B2.keep hb1
   have HB:Below w.heap.size w w4:=later (by go_grown) hb1)
 clear cl hb1
 have hlt:=R.2.2.2.2.2.2
 have hz:Below w4.heap.size w4 ((w4.alloc (.cells #[.bool g,.slice o1 l1 p1,.int .i64 E] 76)).alloc (.cells #[.bool h,.slice o2 l2 p2,.int .i64 E] 76)):=by go_grown
 have C:Has3 ((w4.alloc (.cells #[.bool g,.slice o1 l1 p1,.int .i64 E] 76)).alloc (.cells #[.bool h,.slice o2 l2 p2,.int .i64 E] 76)) w4.heap.size (.bool g) (.slice o1 l1 p1) (.int .i64 E):=⟨by go_simp,by go_simp,by go_simp,by go_simp,by go_simp,by go_simp,by go_size⟩
 have D:Has3 ((w4.alloc (.cells #[.bool g,.slice o1 l1 p1,.int .i64 E] 76)).alloc (.cells #[.bool h,.slice o2 l2 p2,.int .i64 E] 76)) (w4.heap.size+1) (.bool h) (.slice o2 l2 p2) (.int .i64 E):=⟨by go_simp,by go_simp,by go_simp,by go_simp,by go_simp,by go_simp,by go_size⟩
 replace R:=R.keep hz
 replace B2:=B2.keep hz
 replace hv1:=hv1.keep hz
 replace hv2:=hv2.keep hz
 replace HB:=later HB hz
 clear hz
 generalize ((w4.alloc (.cells #[.bool g,.slice o1 l1 p1,.int .i64 E] 76)).alloc (.cells #[.bool h,.slice o2 l2 p2,.int .i64 E] 76))=W at *
 generalize w4.heap.size=q at *
 have ne1:q≠w.heap.size+1+1:=by omega
 have ne2:q+1≠w.heap.size+1+1:=by omega
 have ne3:w.heap.size+1+1≠q:=by omega
 have ne4:w.heap.size+1+1≠q+1:=by omega
 have x0:=C.1
 have x1:=C.2.1
 have x2:=C.2.2.1
 have y0:=D.1
 have y1:=D.2.1
 go_upto_region 12 with
  (go_at_call 62;refine (cm _ _ _ hv1 hv2).mono ?_;rintro _ w5 ⟨rfl,hb5⟩
   replace C:=C.keep hb5
   replace D:=D.keep hb5
   replace R:=R.keep hb5
   replace B2:=B2.keep hb5
   replace hv1:=hv1.keep hb5
   replace hv2:=hv2.keep hb5
   replace HB:=later HB hb5)
 clear x0 x1 x2 y0 y1 hb5
 replace C:=C.drew
 replace D:=D.drew
 replace R:=R.drew
 replace B2:Boxed w5.drew (w.heap.size+1+1):=B2
 replace hv1:=hv1.drew
 replace hv2:=hv2.drew
 replace HB:=HB.drew
 go_region_held3 (fun w'=>w'.cell? ⟨q,0,none⟩=some (.bool g)∧w'.cell? ⟨q+1,0,none⟩=some (.bool h)∧w'.cell? ⟨q,1,none⟩=some (.slice o1 l1 p1)∧w'.cell? ⟨q+1,1,none⟩=some (.slice o2 l2 p2)∧w'.cell? ⟨q,2,none⟩=some (.int .i64 E)) (first | exact⟨C.1,D.1,C.2.1,D.2.1,C.2.2.1⟩ | exact⟨(C.far ne3 _ _ _).1,(D.far ne4 _ _ _).1,(C.far ne3 _ _ _).2.1,(D.far ne4 _ _ _).2.1,(C.far ne3 _ _ _).2.2.1⟩ | go_keep)
   ((go_at_call 112;refine (cp _ _ _ hv1 hv2).mono ?_;rintro _ w6 ⟨⟨v3,rfl,hv3⟩,hb6⟩
     obtain⟨o3,l3,p3,rfl, -⟩:=hv3.shape
     replace C:=C.keep hb6
     replace D:=D.keep hb6
     replace R:=R.keep hb6
     replace B2:=B2.keep hb6
     replace HB:=later HB hb6
     obtain⟨z0,z1,z2,z3,z4,z5,z6⟩:=R))
 all_goals
   go_wp2_with fail
   refine bodyPost_ret (v:=.agg #[.bool g,.slice o3 l3 p3,.int .i64 E]) (by simp [results,Tryd.results83,go_sem, *]) rfl ⟨⟨_,rfl, ?_⟩, ?_⟩
   all_goals repeat' (first | (with_reducible exact hv3) | (with_reducible exact HB) | (with_reducible exact B2) | (with_reducible refine BigIs.put ?_ ?_ _ _) | (with_reducible refine Boxed.set ?_ _ _ _) | (with_reducible refine Below.setCell ?_ ?_ _) | go_size)
set_option maxHeartbeats 2000000 in
theorem sum_lt (g h:Bool) (ao bo:Option Addr) (l k ca cc m' n':Nat) (e f E:Int) (w:World) (hl:((l:Int)==0)=false) (hk:((k:Int)==0)=false)
   (cl:∀W,Below w.heap.size w W→Calls Tryd.prog 127 #[.agg #[.bool g,.slice ao l ca,.int .i64 e],.agg #[.bool h,.slice bo k cc,.int .i64 f]] W fun r w' =>
     (∃v1 v2,r=.returned (.tuple #[.agg #[.bool g,v1,.int .i64 E],.agg #[.bool h,v2,.int .i64 E]])∧BigIs w' v1 m'∧BigIs w' v2 n')∧Below W.heap.size W w')
   (M:Nat) (cp:∀W v1 v2,BigIs W v1 m'→BigIs W v2 n'→Calls Tryd.prog 112 #[v2,v1] W fun r w'=>(∃v',r=.returned v'∧BigIs w' v' M)∧Below W.heap.size W w')
   (t:Int) (cm:∀W v1 v2,BigIs W v1 m'→BigIs W v2 n'→Calls Tryd.prog 62 #[v1,v2] W fun r w'=>r=.returned (.int .i64 t)∧Below W.heap.size W w')
   (hgh:(g==h)=false) (ht:t=-1) :
   Calls Tryd.prog 83 #[.agg #[.bool g,.slice ao l ca,.int .i64 e],.agg #[.bool h,.slice bo k cc,.int .i64 f]] w fun r w' =>
     (∃v,r=.returned (.agg #[.bool h,v,.int .i64 E])∧BigIs w' v M)∧Below w.heap.size w w':=by
 subst ht
 go_enter Tryd.func83,Tryd.ntmps83
 go_upto_region 6 with
  (go_at_call 127;refine (cl _ (by go_grown)).mono ?_;rintro _ w4 ⟨⟨v1,v2,rfl,hv1,hv2⟩,hb1⟩
   obtain⟨o1,l1,p1,rfl, -⟩:=hv1.shape
   obtain⟨o2,l2,p2,rfl, -⟩:=hv2.shape
   have R:Has3 w4 (w.heap.size+1+1) (.bool false) (.slice none 0 0) (.int .i64 0):=Has3.keep ⟨by go_simp,by go_simp,by go_simp,by go_simp,by go_simp,by go_simp,by go_size⟩ hb1
   obtain⟨-, -,B2⟩:=boxed3 w _ _ _
   replace B2:=B2.keep hb1
   have HB:Below w.heap.size w w4:=later (by go_grown) hb1)
 clear cl hb1
 have hlt:=R.2.2.2.2.2.2
 have hz:Below w4.heap.size w4 ((w4.alloc (.cells #[.bool g,.slice o1 l1 p1,.int .i64 E] 76)).alloc (.cells #[.bool h,.slice o2 l2 p2,.int .i64 E] 76)):=by go_grown
 have C:Has3 ((w4.alloc (.cells #[.bool g,.slice o1 l1 p1,.int .i64 E] 76)).alloc (.cells #[.bool h,.slice o2 l2 p2,.int .i64 E] 76)) w4.heap.size (.bool g) (.slice o1 l1 p1) (.int .i64 E):=⟨by go_simp,by go_simp,by go_simp,by go_simp,by go_simp,by go_simp,by go_size⟩
 have D:Has3 ((w4.alloc (.cells #[.bool g,.slice o1 l1 p1,.int .i64 E] 76)).alloc (.cells #[.bool h,.slice o2 l2 p2,.int .i64 E] 76)) (w4.heap.size+1) (.bool h) (.slice o2 l2 p2) (.int .i64 E):=⟨by go_simp,by go_simp,by go_simp,by go_simp,by go_simp,by go_simp,by go_size⟩
 replace R:=R.keep hz
 replace B2:=B2.keep hz
 replace hv1:=hv1.keep hz
 replace hv2:=hv2.keep hz
 replace HB:=later HB hz
 clear hz
 generalize ((w4.alloc (.cells #[.bool g,.slice o1 l1 p1,.int .i64 E] 76)).alloc (.cells #[.bool h,.slice o2 l2 p2,.int .i64 E] 76))=W at *
 generalize w4.heap.size=q at *
 have ne1:q≠w.heap.size+1+1:=by omega
 have ne2:q+1≠w.heap.size+1+1:=by omega
 have ne3:w.heap.size+1+1≠q:=by omega
 have ne4:w.heap.size+1+1≠q+1:=by omega
 have x0:=C.1
 have x1:=C.2.1
 have x2:=C.2.2.1
 have y0:=D.1
 have y1:=D.2.1
 go_upto_region 13 with
  (go_at_call 62;refine (cm _ _ _ hv1 hv2).mono ?_;rintro _ w5 ⟨rfl,hb5⟩
   replace C:=C.keep hb5
   replace D:=D.keep hb5
   replace R:=R.keep hb5
   replace B2:=B2.keep hb5
   replace hv1:=hv1.keep hb5
   replace hv2:=hv2.keep hb5
   replace HB:=later HB hb5)
 clear x0 x1 x2 y0 y1 hb5
 replace C:=C.drew
 replace D:=D.drew
 replace R:=R.drew
 replace B2:Boxed w5.drew (w.heap.size+1+1):=B2
 replace hv1:=hv1.drew
 replace hv2:=hv2.drew
 replace HB:=HB.drew
 go_region_held3 (fun w'=>w'.cell? ⟨q,0,none⟩=some (.bool g)∧w'.cell? ⟨q+1,0,none⟩=some (.bool h)∧w'.cell? ⟨q,1,none⟩=some (.slice o1 l1 p1)∧w'.cell? ⟨q+1,1,none⟩=some (.slice o2 l2 p2)∧w'.cell? ⟨q,2,none⟩=some (.int .i64 E)) (first | exact⟨C.1,D.1,C.2.1,D.2.1,C.2.2.1⟩ | exact⟨(C.far ne3 _ _ _).1,(D.far ne4 _ _ _).1,(C.far ne3 _ _ _).2.1,(D.far ne4 _ _ _).2.1,(C.far ne3 _ _ _).2.2.1⟩ | go_keep)
   ((go_at_call 112;refine (cp _ _ _ hv1 hv2).mono ?_;rintro _ w6 ⟨⟨v3,rfl,hv3⟩,hb6⟩
     obtain⟨o3,l3,p3,rfl, -⟩:=hv3.shape
     replace C:=C.keep hb6
     replace D:=D.keep hb6
     replace R:=R.keep hb6
     replace B2:=B2.keep hb6
     replace HB:=later HB hb6
     obtain⟨z0,z1,z2,z3,z4,z5,z6⟩:=R))
 all_goals
   go_wp2_with fail
   refine bodyPost_ret (v:=.agg #[.bool h,.slice o3 l3 p3,.int .i64 E]) (by simp [results,Tryd.results83,go_sem, *]) rfl ⟨⟨_,rfl, ?_⟩, ?_⟩
   all_goals repeat' (first | (with_reducible exact hv3) | (with_reducible exact HB) | (with_reducible exact B2) | (with_reducible refine BigIs.put ?_ ?_ _ _) | (with_reducible refine Boxed.set ?_ _ _ _) | (with_reducible refine Below.setCell ?_ ?_ _) | go_size)
def NumZ (S T:Int) (K:Nat) (w:World) (x:Value) (z:Int):Prop :=
 ∃g v m e,x=.agg #[.bool g,v,.int .i64 e]∧BigIs w v m∧m<2^K∧S≤e∧e≤T∧sgnd g (m*2^(e-S).toNat)=z
theorem NumZ.keep {S T:Int} {K:Nat} {w w':World} {x:Value} {z:Int} (h:NumZ S T K w x z) (hb:Below w.heap.size w w'):NumZ S T K w' x z:=by
 obtain⟨g,v,m,e,h1,h2,h3⟩:=h
 exact⟨g,v,m,e,h1,h2.keep hb,h3⟩
theorem NumZ.wide {S T T':Int} {K K':Nat} {w:World} {x:Value} {z:Int} (h:NumZ S T K w x z) (hT:T≤T') (hK:K≤K'):NumZ S T' K' w x z:=by
 obtain⟨g,v,m,e,h1,h2,h3,h4,h5,h6⟩:=h
 exact⟨g,v,m,e,h1,h2,Nat.lt_of_lt_of_le h3 (Nat.pow_le_pow_right (by omega) hK),h4,by omega,h6⟩
theorem NumZ.scale {S T:Int} {K:Nat} {w:World} {x:Value} {z:Int} (h:NumZ S T K w x z) {S':Int} {t:Nat} (ht:S=S'+t):NumZ S' T K w x (z*((2^t:Nat):Int)):=by
 obtain⟨g,v,m,e,h1,h2,h3,h4,h5,h6⟩:=h
 refine⟨g,v,m,e,h1,h2,h3,by omega,h5, ?_⟩
 have e1:(e-S').toNat=(e-S).toNat+t:=by omega
 rw [e1,Nat.pow_add,←Nat.mul_assoc,sgnd_mul,h6]
theorem NumZ.shape {S T:Int} {K:Nat} {w:World} {x:Value} {z:Int} (h:NumZ S T K w x z):∃g ao l ca e,x=.agg #[.bool g,.slice ao l ca,.int .i64 e]:=by
 obtain⟨g,v,m,e,h1,h2, -⟩:=h
 obtain⟨ao,l,ca,rfl, -⟩:=h2.shape
 exact⟨g,ao,l,ca,e,h1⟩
theorem signZ_cmp {g:Bool} {m A:Nat} (h:A=0↔m=0):signZ g m=cmpZ (sgnd g A) 0:=by
 obtain⟨a1,a2,a3,a4⟩:=sgnd_sign (g:=g) h
 generalize sgnd g A=x at *
 unfold cmpZ
 by_cases c1:x<0
 · rw [if_pos c1];omega
 · rw [if_neg c1]
   by_cases c2:0<x
   · rw [if_pos c2];omega
   · rw [if_neg c2];omega
theorem sign_z {S T:Int} {K:Nat} {w:World} {x:Value} {z:Int} (h:NumZ S T K w x z) :
   Calls Tryd.prog 123 #[x] w fun r w'=>r=.returned (.int .i64 (cmpZ z 0))∧Below w.heap.size w w':=by
 obtain⟨g,v,m,e,rfl,h2,h3,h4,h5,rfl⟩:=h
 rw [←signZ_cmp (scale_zero m _)]
 exact sign_w g v m e w h2
theorem order_z {S T:Int} {K:Nat} {w:World} {x y:Value} {a b:Int} (hK:K≤500000) (hS:-50000≤S) (hT:T≤50000) (h1:NumZ S T K w x a) (h2:NumZ S T K w y b) :
   Calls Tryd.prog 124 #[x,y] w fun r w'=>r=.returned (.int .i64 (cmpZ a b))∧Below w.heap.size w w':=by
 obtain⟨g,v,m,e,rfl,a2,a3,a4,a5,rfl⟩:=h1
 obtain⟨h,u,n,f,rfl,b2,b3,b4,b5,rfl⟩:=h2
 exact order_w g h v u m n K e f S hK a3 b3 hS (by omega) (by omega) w a2 b2
theorem sgnd_prod (g h:Bool) (A B:Nat):sgnd (g != h) (A*B)=sgnd g A*sgnd h B:=by
 unfold sgnd
 cases g <;> cases h <;> simp [Int.neg_mul,Int.mul_neg]
theorem prod_z {S T S' T':Int} {K:Nat} {w:World} {x y:Value} {a b:Int} (hK:K≤200000) (hS:-25000≤S∧T≤25000) (hS':-25000≤S'∧T'≤25000) (h0:S+S'≤0∧0≤T+T') (h1:NumZ S T K w x a) (h2:NumZ S' T' K w y b) :
   Calls Tryd.prog 125 #[x,y] w fun r w'=>(∃v,r=.returned v∧NumZ (S+S') (T+T') (K+K) w' v (a*b))∧Below w.heap.size w w':=by
 obtain⟨g,v,m,e,rfl,a2,a3,a4,a5,rfl⟩:=h1
 obtain⟨h,u,n,f,rfl,b2,b3,b4,b5,rfl⟩:=h2
 refine (prod_w g h v u m n K e f (by omega) a3 b3 (by omega) (by omega) w a2 b2).mono ?_
 rintro _ w' ⟨⟨s,v',E,rfl,hv,z1,z2⟩,hb⟩
 refine⟨⟨_,rfl,s,v',m*n,E,rfl,hv, ?_, ?_⟩,hb⟩
 · rw [Nat.pow_add];exact Nat.mul_lt_mul'' a3 b3
 · by_cases c:m*n=0
   · obtain⟨rfl,rfl⟩:=z1 c
     refine⟨by omega,by omega, ?_⟩
     rw [←sgnd_prod]
     have e1:m*2^(e-S).toNat*(n*2^(f-S').toNat)=m*n*(2^(e-S).toNat*2^(f-S').toNat):=by
       rw [Nat.mul_mul_mul_comm]
     rw [e1,c,Nat.zero_mul,Nat.zero_mul]
     unfold sgnd
     cases (g != h) <;> rfl
   · obtain⟨rfl,rfl⟩:=z2 c
     refine⟨by omega,by omega, ?_⟩
     rw [←sgnd_prod]
     have e2:(e+f-(S+S')).toNat=(e-S).toNat+(f-S').toNat:=by omega
     rw [e2,Nat.pow_add,Nat.mul_mul_mul_comm]
theorem sgnd_add_same (g:Bool) (A B:Nat):sgnd g (A+B)=sgnd g A+sgnd g B:=by
 unfold sgnd;cases g <;> simp <;> omega
theorem sgnd_sub (g h:Bool) (hne:g≠h) {A B:Nat} (hle:B≤A):sgnd g (A-B)=sgnd g A+sgnd h B:=by
 unfold sgnd
 cases g <;> cases h <;> simp at hne ⊢ <;> omega
theorem sum_z {S T:Int} {K L:Nat} {w:World} {x y:Value} {a b:Int} (hK:K≤200000) (hS:-25000≤S∧S≤0) (hT:T≤25000∧0≤T) (hL:(K:Int)+(T-S)+1≤L) (h1:NumZ S T K w x a) (h2:NumZ S T K w y b) :
   Calls Tryd.prog 83 #[x,y] w fun r w'=>(∃v,r=.returned v∧NumZ S T L w' v (a+b))∧Below w.heap.size w w':=by
 have h1':=h1
 have h2':=h2
 obtain⟨g,v,m,e,rfl,a2,a3,a4,a5,rfl⟩:=h1
 obtain⟨h,u,n,f,rfl,b2,b3,b4,b5,rfl⟩:=h2
 have zs:∀(g:Bool) (t:Nat),sgnd g (0*t)=0:=fun g t=>by rw [Nat.zero_mul];unfold sgnd;cases g <;> rfl
 by_cases m0:m=0
 · subst m0
   refine (sum_zero_a g h v u n e f w a2 b2).mono ?_
   rintro _ w' ⟨rfl,hb⟩
   rw [zs,Int.zero_add]
   exact⟨⟨_,rfl,(h2'.wide (Int.le_refl _) (by omega)).keep hb⟩,hb⟩
 · by_cases n0:n=0
   · subst n0
     refine (sum_zero_b g h v u m e f m0 w a2 b2).mono ?_
     rintro _ w' ⟨rfl,hb⟩
     rw [zs,Int.add_zero]
     exact⟨⟨_,rfl,(h1'.wide (Int.le_refl _) (by omega)).keep hb⟩,hb⟩
   · clear h1' h2' zs
     have cl:=fun W (hW:Below w.heap.size w W)=>level_w g h v u m n K e f (by omega) a3 b3 (by omega) (by omega) W (a2.keep hW) (b2.keep hW)
     obtain⟨ao,l,ca,rfl,hl⟩:=a2.shape
     obtain⟨bo,k,cc,rfl,hk⟩:=b2.shape
     have hl0:((l:Int)==0)=false:=by rw [beq_eq_false_iff_ne];intro c;exact m0 (hl.1 (by omega))
     have hk0:((k:Int)==0)=false:=by rw [beq_eq_false_iff_ne];intro c;exact n0 (hk.1 (by omega))
     obtain⟨E,hE⟩:∃E,E=min e f:=⟨_,rfl⟩
     have e1:(e-S).toNat=(e-E).toNat+(E-S).toNat:=by omega
     have e2:(f-S).toNat=(f-E).toNat+(E-S).toNat:=by omega
     rw [←hE] at cl
     obtain⟨J,hJ⟩:∃J:Nat,(J:Int)=T-S:=⟨(T-S).toNat,by omega⟩
     have p1:m*2^(e-E).toNat<2^(K+J):=pow_scale a3 (by omega)
     have p2:n*2^(f-E).toNat<2^(K+J):=pow_scale b3 (by omega)
     rw [e1,e2,Nat.pow_add,Nat.pow_add,←Nat.mul_assoc,←Nat.mul_assoc]
     generalize m*2^(e-E).toNat=A at *
     generalize n*2^(f-E).toNat=B at *
     rw [sgnd_mul g A,sgnd_mul h B,←Int.add_mul]
     have hKL:2^(K+J+1)≤2^L:=Nat.pow_le_pow_right (by omega) (by omega)
     rw [Nat.pow_succ] at hKL
     by_cases hgh:g=h
     · refine (sum_same g h ao bo l k ca cc A B e f E w hl0 hk0 cl (A+B) (fun W v1 v2 q1 q2=>plus_w v1 v2 A B (K+J) (by omega) p1 p2 W q1 q2) hgh).mono ?_
       rintro _ w' ⟨⟨v',rfl,hv⟩,hb⟩
       subst hgh
       exact⟨⟨_,rfl,g,v',A+B,E,rfl,hv,by omega,by omega,by omega,by rw [sgnd_mul,sgnd_add_same]⟩,hb⟩
     · have hgh':(g==h)=false:=by cases g <;> cases h <;> simp at hgh ⊢
       have cm:=fun W v1 v2 q1 q2=>cmp_w v1 v2 A B (K+J) (by omega) p1 p2 W q1 q2
       rcases Nat.lt_trichotomy A B with c | c | c
       · refine (sum_lt g h ao bo l k ca cc A B e f E w hl0 hk0 cl (B-A) (fun W v1 v2 q1 q2=>less_w v2 v1 B A (K+J) (by omega) p2 (by omega) W q2 q1) _ cm hgh' (cmpN_lt c)).mono ?_
         rintro _ w' ⟨⟨v',rfl,hv⟩,hb⟩
         exact⟨⟨_,rfl,h,v',B-A,E,rfl,hv,by omega,by omega,by omega,by rw [sgnd_mul,sgnd_sub h g (fun q=>hgh q.symm) (by omega),Int.add_comm]⟩,hb⟩
       · refine (sum_eq g h ao bo l k ca cc A B e f E w hl0 hk0 cl _ cm hgh' (cmpN_eq c)).mono ?_
         rintro _ w' ⟨⟨v',rfl,hv⟩,hb⟩
         subst c
         refine⟨⟨_,rfl,false,v',0,0,rfl,hv,Nat.two_pow_pos _,by omega,by omega, ?_⟩,hb⟩
         rw [←sgnd_sub g h hgh (Nat.le_refl A),Nat.sub_self,sgnd_mul]
         unfold sgnd
         cases g <;> simp
       · refine (sum_gt g h ao bo l k ca cc A B e f E w hl0 hk0 cl (A-B) (fun W v1 v2 q1 q2=>less_w v1 v2 A B (K+J) (by omega) p1 (by omega) W q1 q2) _ cm hgh' (cmpN_gt c)).mono ?_
         rintro _ w' ⟨⟨v',rfl,hv⟩,hb⟩
         exact⟨⟨_,rfl,g,v',A-B,E,rfl,hv,by omega,by omega,by omega,by rw [sgnd_mul,sgnd_sub g h hgh (by omega)]⟩,hb⟩
end Go.Proofs.YtgocelaghggpmaaDoor
