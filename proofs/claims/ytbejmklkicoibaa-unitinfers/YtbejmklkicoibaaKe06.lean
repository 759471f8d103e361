/- The walks of the reference's Product and Sum. The walk of the reference's Sum. The reference's numbers by what they are worth: Sign, Order, Product and Sum again. -/
import Derived.Test.YtbejmklkicoibaaKe05
namespace Go.Proofs.Ytbejmklkicoibaa
open Go.ChangeShapes Go.WideShapes Go.ChangeAt Go.RowKit
theorem big_nil (w:World):BigIs w (.slice none 0 0) 0:=⟨[],Digs.nil,trimmed_nil,rfl,World.ownsRow_nil _ _ _ _⟩
set_option maxHeartbeats 1000000 in
theorem prod_w (g h:Bool) (va vb:Value) (m n K:Nat) (e f:Int) (hK:K<=1000000) (hm:m<2^K) (hn:n<2^K) (he:-100000<=e/\e<=100000) (hf:-100000<=f/\f<=100000) (w:World) (ha:BigIs w va m) (hb:BigIs w vb n) :
   Calls Try.prog 86 #[.agg #[.bool g,va,.int .i64 e],.agg #[.bool h,vb,.int .i64 f]] w fun r w' =>
     (∃s v E,r=.returned (.agg #[.bool s,v,.int .i64 E])/\BigIs w' v (m*n)/\(m*n=0->s=false/\E=0)/\(m*n≠0->s=(g != h)/\E=e+f))/\Below w.heap.size w w':=by
 obtain⟨ao,l,ca,rfl, -⟩:=ha.shape
 obtain⟨bo,k,cc,rfl, -⟩:=hb.shape
 have cb:=fun W (hW:Below w.heap.size w W)=>by_w _ _ m n K hK hm hn W (ha.keep hW) (hb.keep hW)
 clear hm hn
 generalize m*n=p at *
 by_cases h0:p=0
 · subst h0
   go_enter Try.func86,Try.ntmps86
   go_wp2_with
    (go_at_call 73;refine (cb _ (by go_grown)).mono ?_;rintro _ w1 ⟨⟨v,rfl,hv⟩,hb1⟩
     obtain⟨o1,l1,p1,rfl,hl⟩:=hv.shape
     have hl0:l1=0:=hl.2 rfl
     subst hl0
     have R:Has3 w1 (w.heap.size+1+1) (.bool false) (.slice none 0 0) (.int .i64 0):=Has3.keep ⟨by go_simp,by go_simp,by go_simp,by go_simp,by go_simp,by go_simp,by go_size⟩ hb1
     obtain⟨z0,z1,z2,z3,z4,z5,z6⟩:=R
     have HB:Below w.heap.size w w1:=later (by go_grown) hb1)
   refine bodyPost_ret (v:=.agg #[.bool false,.slice none 0 0,.int .i64 0]) (by simp [results,Try.results86,go_sem, *]) rfl ⟨⟨_,_,_,rfl,big_nil _,fun _=>⟨rfl,rfl⟩,fun c=>absurd rfl c⟩, ?_⟩
   repeat' (first | (with_reducible exact HB) | (with_reducible refine Below.setCell ?_ ?_ _) | go_size)
 · go_enter Try.func86,Try.ntmps86
   go_wp2_with
    (go_at_call 73;refine (cb _ (by go_grown)).mono ?_;rintro _ w1 ⟨⟨v,rfl,hv⟩,hb1⟩
     obtain⟨o1,l1,p1,rfl,hl⟩:=hv.shape
     have hl0:((l1:Int)==0)=false:=by rw [beq_eq_false_iff_ne];intro c;exact h0 (hl.1 (by omega))
     clear hl
     have X:Has3 w1 w.heap.size (.bool g) (.slice ao l ca) (.int .i64 e):=Has3.keep ⟨by go_simp,by go_simp,by go_simp,by go_simp,by go_simp,by go_simp,by go_size⟩ hb1
     have Y:Has3 w1 (w.heap.size+1) (.bool h) (.slice bo k cc) (.int .i64 f):=Has3.keep ⟨by go_simp,by go_simp,by go_simp,by go_simp,by go_simp,by go_simp,by go_size⟩ hb1
     have R:Has3 w1 (w.heap.size+1+1) (.bool false) (.slice none 0 0) (.int .i64 0):=Has3.keep ⟨by go_simp,by go_simp,by go_simp,by go_simp,by go_simp,by go_simp,by go_size⟩ hb1
     obtain⟨x0,x1,x2, -⟩:=X
     obtain⟨y0,y1,y2, -⟩:=Y
     obtain⟨z0,z1,z2,z3,z4,z5,z6⟩:=R
     obtain⟨-, -,B2⟩:=boxed3 w _ _ _
     replace B2:=B2.keep hb1
     have HB:Below w.heap.size w w1:=later (by go_grown) hb1)
   refine bodyPost_ret (v:=.agg #[.bool (!(g==h)),.slice o1 l1 p1,.int .i64 (e+f)]) (by simp [results,Try.results86,go_sem, *]) rfl ⟨⟨_,_,_,rfl, ?_,fun c=>absurd c h0,fun _=>⟨by cases g <;> cases h <;> rfl,rfl⟩⟩, ?_⟩
   all_goals repeat' (first | (with_reducible exact hv) | (with_reducible exact HB) | (with_reducible exact B2) | (with_reducible refine BigIs.put ?_ ?_ _ _) | (with_reducible refine Boxed.set ?_ _ _ _) | (with_reducible refine Below.setCell ?_ ?_ _) | go_size)
theorem sum_zero_a (g h:Bool) (va vb:Value) (n:Nat) (e f:Int) (w:World) (ha:BigIs w va 0) (hb:BigIs w vb n) :
  Calls Try.prog 85 #[.agg #[.bool g,va,.int .i64 e],.agg #[.bool h,vb,.int .i64 f]] w fun r w' =>
   r=.returned (.agg #[.bool h,vb,.int .i64 f])/\Below w.heap.size w w':=by
 obtain⟨ao,l,ca,rfl,hl⟩:=ha.shape
 obtain⟨bo,k,cc,rfl, -⟩:=hb.shape
 have:l=0:=hl.2 rfl
 subst this
 go_enter Try.func85,Try.ntmps85
 go_wp2
 refine bodyPost_ret (v:=.agg #[.bool h,.slice bo k cc,.int .i64 f]) (by simp [results,Try.results85,go_sem, *]) rfl ⟨rfl,by go_grown⟩
theorem sum_zero_b (g h:Bool) (va vb:Value) (m:Nat) (e f:Int) (hm:m≠0) (w:World) (ha:BigIs w va m) (hb:BigIs w vb 0) :
  Calls Try.prog 85 #[.agg #[.bool g,va,.int .i64 e],.agg #[.bool h,vb,.int .i64 f]] w fun r w' =>
   r=.returned (.agg #[.bool g,va,.int .i64 e])/\Below w.heap.size w w':=by
 obtain⟨ao,l,ca,rfl,hl⟩:=ha.shape
 obtain⟨bo,k,cc,rfl,hk⟩:=hb.shape
 have:k=0:=hk.2 rfl
 subst this
 have hl0:((l:Int)==0)=false:=by rw [beq_eq_false_iff_ne];intro c;exact hm (hl.1 (by omega))
 clear hl hk
 go_enter Try.func85,Try.ntmps85
 go_wp2
 refine bodyPost_ret (v:=.agg #[.bool g,.slice ao l ca,.int .i64 e]) (by simp [results,Try.results85,go_sem, *]) rfl ⟨rfl,by go_grown⟩
set_option maxHeartbeats 2000000 in
theorem sum_same (g h:Bool) (ao bo:Option Addr) (l k ca cc m' n':Nat) (e f E:Int) (w:World) (hl:((l:Int)==0)=false) (hk:((k:Int)==0)=false)
   (cl:∀W,Below w.heap.size w W->Calls Try.prog 101 #[.agg #[.bool g,.slice ao l ca,.int .i64 e],.agg #[.bool h,.slice bo k cc,.int .i64 f]] W fun r w' =>
     (∃v1 v2,r=.returned (.tuple #[.agg #[.bool g,v1,.int .i64 E],.agg #[.bool h,v2,.int .i64 E]])/\BigIs w' v1 m'/\BigIs w' v2 n')/\Below W.heap.size W w')
   (M:Nat) (cp:∀W v1 v2,BigIs W v1 m'->BigIs W v2 n'->Calls Try.prog 102 #[v1,v2] W fun r w'=>(∃v',r=.returned v'/\BigIs w' v' M)/\Below W.heap.size W w')
   (hgh:g=h) :
   Calls Try.prog 85 #[.agg #[.bool g,.slice ao l ca,.int .i64 e],.agg #[.bool h,.slice bo k cc,.int .i64 f]] w fun r w' =>
     (∃v,r=.returned (.agg #[.bool g,v,.int .i64 E])/\BigIs w' v M)/\Below w.heap.size w w':=by
 subst hgh
 go_enter Try.func85,Try.ntmps85
 go_upto_region 6 with
  (go_at_call 101;refine (cl _ (by go_grown)).mono ?_;rintro _ w4 ⟨⟨v1,v2,rfl,hv1,hv2⟩,hb1⟩
   obtain⟨o1,l1,p1,rfl, -⟩:=hv1.shape
   obtain⟨o2,l2,p2,rfl, -⟩:=hv2.shape
   have R:Has3 w4 (w.heap.size+1+1) (.bool false) (.slice none 0 0) (.int .i64 0):=Has3.keep ⟨by go_simp,by go_simp,by go_simp,by go_simp,by go_simp,by go_simp,by go_size⟩ hb1
   obtain⟨-, -,B2⟩:=boxed3 w _ _ _
   replace B2:=B2.keep hb1
   have HB:Below w.heap.size w w4:=later (by go_grown) hb1)
 clear cl hb1
 have hlt:=R.2.2.2.2.2.2
 have hz:Below w4.heap.size w4 ((w4.alloc (.cells #[.bool g,.slice o1 l1 p1,.int .i64 E] 125)).alloc (.cells #[.bool g,.slice o2 l2 p2,.int .i64 E] 125)):=by go_grown
 have C:Has3 ((w4.alloc (.cells #[.bool g,.slice o1 l1 p1,.int .i64 E] 125)).alloc (.cells #[.bool g,.slice o2 l2 p2,.int .i64 E] 125)) w4.heap.size (.bool g) (.slice o1 l1 p1) (.int .i64 E):=⟨by go_simp,by go_simp,by go_simp,by go_simp,by go_simp,by go_simp,by go_size⟩
 have D:Has3 ((w4.alloc (.cells #[.bool g,.slice o1 l1 p1,.int .i64 E] 125)).alloc (.cells #[.bool g,.slice o2 l2 p2,.int .i64 E] 125)) (w4.heap.size+1) (.bool g) (.slice o2 l2 p2) (.int .i64 E):=⟨by go_simp,by go_simp,by go_simp,by go_simp,by go_simp,by go_simp,by go_size⟩
 replace R:=R.keep hz
 replace B2:=B2.keep hz
 replace hv1:=hv1.keep hz
 replace hv2:=hv2.keep hz
 replace HB:=later HB hz
 clear hz
 generalize ((w4.alloc (.cells #[.bool g,.slice o1 l1 p1,.int .i64 E] 125)).alloc (.cells #[.bool g,.slice o2 l2 p2,.int .i64 E] 125))=W at *
 generalize w4.heap.size=q at *
 have ne1:q≠w.heap.size+1+1:=by omega
 have ne2:q+1≠w.heap.size+1+1:=by omega
 have ne3:w.heap.size+1+1≠q:=by omega
 have ne4:w.heap.size+1+1≠q+1:=by omega
 have x0:=C.1
 have x1:=C.2.1
 have x2:=C.2.2.1
 have y0:=D.1
 have y1:=D.2.1
 go_upto_region 7 with fail
 clear x0 x1 x2 y0 y1
 replace C:=C.drew
 replace D:=D.drew
 replace R:=R.drew
 replace B2:Boxed W.drew (w.heap.size+1+1):=B2
 replace hv1:=hv1.drew
 replace hv2:=hv2.drew
 replace HB:=HB.drew
 go_region_held3 (fun w'=>w'.cell? ⟨q,0,none⟩=some (.bool g)/\w'.cell? ⟨q+1,0,none⟩=some (.bool g)/\w'.cell? ⟨q,1,none⟩=some (.slice o1 l1 p1)/\w'.cell? ⟨q+1,1,none⟩=some (.slice o2 l2 p2)/\w'.cell? ⟨q,2,none⟩=some (.int .i64 E)) (first | exact⟨C.1,D.1,C.2.1,D.2.1,C.2.2.1⟩ | exact⟨(C.far ne3 _ _ _).1,(D.far ne4 _ _ _).1,(C.far ne3 _ _ _).2.1,(D.far ne4 _ _ _).2.1,(C.far ne3 _ _ _).2.2.1⟩ | go_keep)
   ((go_at_call 102;refine (cp _ _ _ hv1 hv2).mono ?_;rintro _ w6 ⟨⟨v3,rfl,hv3⟩,hb6⟩
     obtain⟨o3,l3,p3,rfl, -⟩:=hv3.shape
     replace C:=C.keep hb6
     replace D:=D.keep hb6
     replace R:=R.keep hb6
     replace B2:=B2.keep hb6
     replace HB:=later HB hb6
     obtain⟨z0,z1,z2,z3,z4,z5,z6⟩:=R))
 all_goals
   go_wp2_with fail
   refine bodyPost_ret (v:=.agg #[.bool g,.slice o3 l3 p3,.int .i64 E]) (by simp [results,Try.results85,go_sem, *]) rfl ⟨⟨_,rfl, ?_⟩, ?_⟩
   all_goals repeat' (first | (with_reducible exact hv3) | (with_reducible exact HB) | (with_reducible exact B2) | (with_reducible refine BigIs.put ?_ ?_ _ _) | (with_reducible refine Boxed.set ?_ _ _ _) | (with_reducible refine Below.setCell ?_ ?_ _) | go_size)
set_option maxHeartbeats 2000000 in
theorem sum_eq (g h:Bool) (ao bo:Option Addr) (l k ca cc m' n':Nat) (e f E:Int) (w:World) (hl:((l:Int)==0)=false) (hk:((k:Int)==0)=false)
   (cl:∀W,Below w.heap.size w W->Calls Try.prog 101 #[.agg #[.bool g,.slice ao l ca,.int .i64 e],.agg #[.bool h,.slice bo k cc,.int .i64 f]] W fun r w' =>
     (∃v1 v2,r=.returned (.tuple #[.agg #[.bool g,v1,.int .i64 E],.agg #[.bool h,v2,.int .i64 E]])/\BigIs w' v1 m'/\BigIs w' v2 n')/\Below W.heap.size W w')
   (t:Int) (cm:∀W v1 v2,BigIs W v1 m'->BigIs W v2 n'->Calls Try.prog 66 #[v1,v2] W fun r w'=>r=.returned (.int .i64 t)/\Below W.heap.size W w')
   (hgh:(g==h)=false) (ht:t=0) :
   Calls Try.prog 85 #[.agg #[.bool g,.slice ao l ca,.int .i64 e],.agg #[.bool h,.slice bo k cc,.int .i64 f]] w fun r w' =>
     (∃v,r=.returned (.agg #[.bool false,v,.int .i64 0])/\BigIs w' v 0)/\Below w.heap.size w w':=by
 subst ht
 go_enter Try.func85,Try.ntmps85
 go_upto_region 6 with
  (go_at_call 101;refine (cl _ (by go_grown)).mono ?_;rintro _ w4 ⟨⟨v1,v2,rfl,hv1,hv2⟩,hb1⟩
   obtain⟨o1,l1,p1,rfl, -⟩:=hv1.shape
   obtain⟨o2,l2,p2,rfl, -⟩:=hv2.shape
   have R:Has3 w4 (w.heap.size+1+1) (.bool false) (.slice none 0 0) (.int .i64 0):=Has3.keep ⟨by go_simp,by go_simp,by go_simp,by go_simp,by go_simp,by go_simp,by go_size⟩ hb1
   obtain⟨-, -,B2⟩:=boxed3 w _ _ _
   replace B2:=B2.keep hb1
   have HB:Below w.heap.size w w4:=later (by go_grown) hb1)
 clear cl hb1
 have hlt:=R.2.2.2.2.2.2
 have hz:Below w4.heap.size w4 ((w4.alloc (.cells #[.bool g,.slice o1 l1 p1,.int .i64 E] 125)).alloc (.cells #[.bool h,.slice o2 l2 p2,.int .i64 E] 125)):=by go_grown
 have C:Has3 ((w4.alloc (.cells #[.bool g,.slice o1 l1 p1,.int .i64 E] 125)).alloc (.cells #[.bool h,.slice o2 l2 p2,.int .i64 E] 125)) w4.heap.size (.bool g) (.slice o1 l1 p1) (.int .i64 E):=⟨by go_simp,by go_simp,by go_simp,by go_simp,by go_simp,by go_simp,by go_size⟩
 have D:Has3 ((w4.alloc (.cells #[.bool g,.slice o1 l1 p1,.int .i64 E] 125)).alloc (.cells #[.bool h,.slice o2 l2 p2,.int .i64 E] 125)) (w4.heap.size+1) (.bool h) (.slice o2 l2 p2) (.int .i64 E):=⟨by go_simp,by go_simp,by go_simp,by go_simp,by go_simp,by go_simp,by go_size⟩
 replace R:=R.keep hz
 replace B2:=B2.keep hz
 replace hv1:=hv1.keep hz
 replace hv2:=hv2.keep hz
 replace HB:=later HB hz
 clear hz
 generalize ((w4.alloc (.cells #[.bool g,.slice o1 l1 p1,.int .i64 E] 125)).alloc (.cells #[.bool h,.slice o2 l2 p2,.int .i64 E] 125))=W at *
 generalize w4.heap.size=q at *
 have ne1:q≠w.heap.size+1+1:=by omega
 have ne2:q+1≠w.heap.size+1+1:=by omega
 have ne3:w.heap.size+1+1≠q:=by omega
 have ne4:w.heap.size+1+1≠q+1:=by omega
 have x0:=C.1
 have x1:=C.2.1
 have x2:=C.2.2.1
 have y0:=D.1
 have y1:=D.2.1
 go_wp2_with
  (go_at_call 66;refine (cm _ _ _ hv1 hv2).mono ?_;rintro _ w5 ⟨rfl,hb5⟩
   replace C:=C.keep hb5
   replace D:=D.keep hb5
   replace R:=R.keep hb5
   replace B2:=B2.keep hb5
   replace hv1:=hv1.keep hb5
   replace hv2:=hv2.keep hb5
   replace HB:=later HB hb5
   obtain⟨z0,z1,z2,z3,z4,z5,z6⟩:=R)
 refine bodyPost_ret (v:=.agg #[.bool false,.slice none 0 0,.int .i64 0]) (by simp [results,Try.results85,go_sem, *]) rfl ⟨⟨_,rfl,big_nil _⟩, ?_⟩
 repeat' (first | (with_reducible exact HB) | (with_reducible refine Below.setCell ?_ ?_ _) | go_size)
set_option maxHeartbeats 2000000 in
theorem sum_gt (g h:Bool) (ao bo:Option Addr) (l k ca cc m' n':Nat) (e f E:Int) (w:World) (hl:((l:Int)==0)=false) (hk:((k:Int)==0)=false)
   (cl:∀W,Below w.heap.size w W->Calls Try.prog 101 #[.agg #[.bool g,.slice ao l ca,.int .i64 e],.agg #[.bool h,.slice bo k cc,.int .i64 f]] W fun r w' =>
     (∃v1 v2,r=.returned (.tuple #[.agg #[.bool g,v1,.int .i64 E],.agg #[.bool h,v2,.int .i64 E]])/\BigIs w' v1 m'/\BigIs w' v2 n')/\Below W.heap.size W w')
   (M:Nat) (cp:∀W v1 v2,BigIs W v1 m'->BigIs W v2 n'->Calls Try.prog 100 #[v1,v2] W fun r w'=>(∃v',r=.returned v'/\BigIs w' v' M)/\Below W.heap.size W w')
   (t:Int) (cm:∀W v1 v2,BigIs W v1 m'->BigIs W v2 n'->Calls Try.prog 66 #[v1,v2] W fun r w'=>r=.returned (.int .i64 t)/\Below W.heap.size W w')
   (hgh:(g==h)=false) (ht:t=1) :
   Calls Try.prog 85 #[.agg #[.bool g,.slice ao l ca,.int .i64 e],.agg #[.bool h,.slice bo k cc,.int .i64 f]] w fun r w' =>
     (∃v,r=.returned (.agg #[.bool g,v,.int .i64 E])/\BigIs w' v M)/\Below w.heap.size w w':=by
 subst ht
 go_enter Try.func85,Try.ntmps85
 go_upto_region 6 with
  (go_at_call 101;refine (cl _ (by go_grown)).mono ?_;rintro _ w4 ⟨⟨v1,v2,rfl,hv1,hv2⟩,hb1⟩
   obtain⟨o1,l1,p1,rfl, -⟩:=hv1.shape
   obtain⟨o2,l2,p2,rfl, -⟩:=hv2.shape
   have R:Has3 w4 (w.heap.size+1+1) (.bool false) (.slice none 0 0) (.int .i64 0):=Has3.keep ⟨by go_simp,by go_simp,by go_simp,by go_simp,by go_simp,by go_simp,by go_size⟩ hb1
   obtain⟨-, -,B2⟩:=boxed3 w _ _ _
   replace B2:=B2.keep hb1
   have HB:Below w.heap.size w w4:=later (by go_grown) hb1)
 clear cl hb1
 have hlt:=R.2.2.2.2.2.2
 have hz:Below w4.heap.size w4 ((w4.alloc (.cells #[.bool g,.slice o1 l1 p1,.int .i64 E] 125)).alloc (.cells #[.bool h,.slice o2 l2 p2,.int .i64 E] 125)):=by go_grown
 have C:Has3 ((w4.alloc (.cells #[.bool g,.slice o1 l1 p1,.int .i64 E] 125)).alloc (.cells #[.bool h,.slice o2 l2 p2,.int .i64 E] 125)) w4.heap.size (.bool g) (.slice o1 l1 p1) (.int .i64 E):=⟨by go_simp,by go_simp,by go_simp,by go_simp,by go_simp,by go_simp,by go_size⟩
 have D:Has3 ((w4.alloc (.cells #[.bool g,.slice o1 l1 p1,.int .i64 E] 125)).alloc (.cells #[.bool h,.slice o2 l2 p2,.int .i64 E] 125)) (w4.heap.size+1) (.bool h) (.slice o2 l2 p2) (.int .i64 E):=⟨by go_simp,by go_simp,by go_simp,by go_simp,by go_simp,by go_simp,by go_size⟩
 replace R:=R.keep hz
 replace B2:=B2.keep hz
 replace hv1:=hv1.keep hz
 replace hv2:=hv2.keep hz
 replace HB:=later HB hz
 clear hz
 generalize ((w4.alloc (.cells #[.bool g,.slice o1 l1 p1,.int .i64 E] 125)).alloc (.cells #[.bool h,.slice o2 l2 p2,.int .i64 E] 125))=W at *
 generalize w4.heap.size=q at *
 have ne1:q≠w.heap.size+1+1:=by omega
 have ne2:q+1≠w.heap.size+1+1:=by omega
 have ne3:w.heap.size+1+1≠q:=by omega
 have ne4:w.heap.size+1+1≠q+1:=by omega
 have x0:=C.1
 have x1:=C.2.1
 have x2:=C.2.2.1
 have y0:=D.1
 have y1:=D.2.1
 go_upto_region 12 with
  (go_at_call 66;refine (cm _ _ _ hv1 hv2).mono ?_;rintro _ w5 ⟨rfl,hb5⟩
   replace C:=C.keep hb5
   replace D:=D.keep hb5
   replace R:=R.keep hb5
   replace B2:=B2.keep hb5
   replace hv1:=hv1.keep hb5
   replace hv2:=hv2.keep hb5
   replace HB:=later HB hb5)
 clear x0 x1 x2 y0 y1 hb5
 replace C:=C.drew
 replace D:=D.drew
 replace R:=R.drew
 replace B2:Boxed w5.drew (w.heap.size+1+1):=B2
 replace hv1:=hv1.drew
 replace hv2:=hv2.drew
 replace HB:=HB.drew
 go_region_held3 (fun w'=>w'.cell? ⟨q,0,none⟩=some (.bool g)/\w'.cell? ⟨q+1,0,none⟩=some (.bool h)/\w'.cell? ⟨q,1,none⟩=some (.slice o1 l1 p1)/\w'.cell? ⟨q+1,1,none⟩=some (.slice o2 l2 p2)/\w'.cell? ⟨q,2,none⟩=some (.int .i64 E)) (first | exact⟨C.1,D.1,C.2.1,D.2.1,C.2.2.1⟩ | exact⟨(C.far ne3 _ _ _).1,(D.far ne4 _ _ _).1,(C.far ne3 _ _ _).2.1,(D.far ne4 _ _ _).2.1,(C.far ne3 _ _ _).2.2.1⟩ | go_keep)
   ((go_at_call 100;refine (cp _ _ _ hv1 hv2).mono ?_;rintro _ w6 ⟨⟨v3,rfl,hv3⟩,hb6⟩
     obtain⟨o3,l3,p3,rfl, -⟩:=hv3.shape
     replace C:=C.keep hb6
     replace D:=D.keep hb6
     replace R:=R.keep hb6
     replace B2:=B2.keep hb6
     replace HB:=later HB hb6
     obtain⟨z0,z1,z2,z3,z4,z5,z6⟩:=R))
 all_goals
   go_wp2_with fail
   refine bodyPost_ret (v:=.agg #[.bool g,.slice o3 l3 p3,.int .i64 E]) (by simp [results,Try.results85,go_sem, *]) rfl ⟨⟨_,rfl, ?_⟩, ?_⟩
   all_goals repeat' (first | (with_reducible exact hv3) | (with_reducible exact HB) | (with_reducible exact B2) | (with_reducible refine BigIs.put ?_ ?_ _ _) | (with_reducible refine Boxed.set ?_ _ _ _) | (with_reducible refine Below.setCell ?_ ?_ _) | go_size)
set_option maxHeartbeats 2000000 in
theorem sum_lt (g h:Bool) (ao bo:Option Addr) (l k ca cc m' n':Nat) (e f E:Int) (w:World) (hl:((l:Int)==0)=false) (hk:((k:Int)==0)=false)
   (cl:∀W,Below w.heap.size w W->Calls Try.prog 101 #[.agg #[.bool g,.slice ao l ca,.int .i64 e],.agg #[.bool h,.slice bo k cc,.int .i64 f]] W fun r w' =>
     (∃v1 v2,r=.returned (.tuple #[.agg #[.bool g,v1,.int .i64 E],.agg #[.bool h,v2,.int .i64 E]])/\BigIs w' v1 m'/\BigIs w' v2 n')/\Below W.heap.size W w')
   (M:Nat) (cp:∀W v1 v2,BigIs W v1 m'->BigIs W v2 n'->Calls Try.prog 100 #[v2,v1] W fun r w'=>(∃v',r=.returned v'/\BigIs w' v' M)/\Below W.heap.size W w')
   (t:Int) (cm:∀W v1 v2,BigIs W v1 m'->BigIs W v2 n'->Calls Try.prog 66 #[v1,v2] W fun r w'=>r=.returned (.int .i64 t)/\Below W.heap.size W w')
   (hgh:(g==h)=false) (ht:t=-1) :
   Calls Try.prog 85 #[.agg #[.bool g,.slice ao l ca,.int .i64 e],.agg #[.bool h,.slice bo k cc,.int .i64 f]] w fun r w' =>
     (∃v,r=.returned (.agg #[.bool h,v,.int .i64 E])/\BigIs w' v M)/\Below w.heap.size w w':=by
 subst ht
 go_enter Try.func85,Try.ntmps85
 go_upto_region 6 with
  (go_at_call 101;refine (cl _ (by go_grown)).mono ?_;rintro _ w4 ⟨⟨v1,v2,rfl,hv1,hv2⟩,hb1⟩
   obtain⟨o1,l1,p1,rfl, -⟩:=hv1.shape
   obtain⟨o2,l2,p2,rfl, -⟩:=hv2.shape
   have R:Has3 w4 (w.heap.size+1+1) (.bool false) (.slice none 0 0) (.int .i64 0):=Has3.keep ⟨by go_simp,by go_simp,by go_simp,by go_simp,by go_simp,by go_simp,by go_size⟩ hb1
   obtain⟨-, -,B2⟩:=boxed3 w _ _ _
   replace B2:=B2.keep hb1
   have HB:Below w.heap.size w w4:=later (by go_grown) hb1)
 clear cl hb1
 have hlt:=R.2.2.2.2.2.2
 have hz:Below w4.heap.size w4 ((w4.alloc (.cells #[.bool g,.slice o1 l1 p1,.int .i64 E] 125)).alloc (.cells #[.bool h,.slice o2 l2 p2,.int .i64 E] 125)):=by go_grown
 have C:Has3 ((w4.alloc (.cells #[.bool g,.slice o1 l1 p1,.int .i64 E] 125)).alloc (.cells #[.bool h,.slice o2 l2 p2,.int .i64 E] 125)) w4.heap.size (.bool g) (.slice o1 l1 p1) (.int .i64 E):=⟨by go_simp,by go_simp,by go_simp,by go_simp,by go_simp,by go_simp,by go_size⟩
 have D:Has3 ((w4.alloc (.cells #[.bool g,.slice o1 l1 p1,.int .i64 E] 125)).alloc (.cells #[.bool h,.slice o2 l2 p2,.int .i64 E] 125)) (w4.heap.size+1) (.bool h) (.slice o2 l2 p2) (.int .i64 E):=⟨by go_simp,by go_simp,by go_simp,by go_simp,by go_simp,by go_simp,by go_size⟩
 replace R:=R.keep hz
 replace B2:=B2.keep hz
 replace hv1:=hv1.keep hz
 replace hv2:=hv2.keep hz
 replace HB:=later HB hz
 clear hz
 generalize ((w4.alloc (.cells #[.bool g,.slice o1 l1 p1,.int .i64 E] 125)).alloc (.cells #[.bool h,.slice o2 l2 p2,.int .i64 E] 125))=W at *
 generalize w4.heap.size=q at *
 have ne1:q≠w.heap.size+1+1:=by omega
 have ne2:q+1≠w.heap.size+1+1:=by omega
 have ne3:w.heap.size+1+1≠q:=by omega
 have ne4:w.heap.size+1+1≠q+1:=by omega
 have x0:=C.1
 have x1:=C.2.1
 have x2:=C.2.2.1
 have y0:=D.1
 have y1:=D.2.1
 go_upto_region 13 with
  (go_at_call 66;refine (cm _ _ _ hv1 hv2).mono ?_;rintro _ w5 ⟨rfl,hb5⟩
   replace C:=C.keep hb5
   replace D:=D.keep hb5
   replace R:=R.keep hb5
   replace B2:=B2.keep hb5
   replace hv1:=hv1.keep hb5
   replace hv2:=hv2.keep hb5
   replace HB:=later HB hb5)
 clear x0 x1 x2 y0 y1 hb5
 replace C:=C.drew
 replace D:=D.drew
 replace R:=R.drew
 replace B2:Boxed w5.drew (w.heap.size+1+1):=B2
 replace hv1:=hv1.drew
 replace hv2:=hv2.drew
 replace HB:=HB.drew
 go_region_held3 (fun w'=>w'.cell? ⟨q,0,none⟩=some (.bool g)/\w'.cell? ⟨q+1,0,none⟩=some (.bool h)/\w'.cell? ⟨q,1,none⟩=some (.slice o1 l1 p1)/\w'.cell? ⟨q+1,1,none⟩=some (.slice o2 l2 p2)/\w'.cell? ⟨q,2,none⟩=some (.int .i64 E)) (first | exact⟨C.1,D.1,C.2.1,D.2.1,C.2.2.1⟩ | exact⟨(C.far ne3 _ _ _).1,(D.far ne4 _ _ _).1,(C.far ne3 _ _ _).2.1,(D.far ne4 _ _ _).2.1,(C.far ne3 _ _ _).2.2.1⟩ | go_keep)
   ((go_at_call 100;refine (cp _ _ _ hv1 hv2).mono ?_;rintro _ w6 ⟨⟨v3,rfl,hv3⟩,hb6⟩
     obtain⟨o3,l3,p3,rfl, -⟩:=hv3.shape
     replace C:=C.keep hb6
     replace D:=D.keep hb6
     replace R:=R.keep hb6
     replace B2:=B2.keep hb6
     replace HB:=later HB hb6
     obtain⟨z0,z1,z2,z3,z4,z5,z6⟩:=R))
 all_goals
   go_wp2_with fail
   refine bodyPost_ret (v:=.agg #[.bool h,.slice o3 l3 p3,.int .i64 E]) (by simp [results,Try.results85,go_sem, *]) rfl ⟨⟨_,rfl, ?_⟩, ?_⟩
   all_goals repeat' (first | (with_reducible exact hv3) | (with_reducible exact HB) | (with_reducible exact B2) | (with_reducible refine BigIs.put ?_ ?_ _ _) | (with_reducible refine Boxed.set ?_ _ _ _) | (with_reducible refine Below.setCell ?_ ?_ _) | go_size)
end Go.Proofs.Ytbejmklkicoibaa
