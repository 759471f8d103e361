/- The walks of the reference's Product and Sum. The walk of the reference's Sum. The reference's numbers by what they are worth: Sign, Order, Product and Sum again. The reference's numbers of stage 11: what is left by a divisor, how often it is in. The reference's numbers of stage 11: how often a divisor is in a number, the greatest common divisor, amounts. The reference's numbers between two, the model: sums, products, cuts, quotients, roots, series as functions of exact numbers; the walks of Sum, Product, Order and Minus by it. The reference's numbers of stage 11: a number's low part, a quotient in its form. The reference's numbers of stage 11: which may be, quotients of whole numbers. The program's quotients (rat): what is made of two amounts; what has grown; turned round; which may be. The program's quotients (rat): what has grown; turned round; which may be. Print of a quotient: the program's and the document's; strconv by its contracts. -/
import Derived.Test.YtgocelaghggpmaaDoorChecked
import Derived.Lib.Strings
import Derived.Lib.Slices
import Derived.Lib.Small
import Derived.Lib.Walk
import Derived.Lib.BitFns
import Derived.KernelRfl
import Derived.WalkKit
import Derived.Laws.Cover2
import Derived.Laws.FloatArith
import Derived.Laws.BitsAllLaws
import Derived.Test.YtgocelaghggpmaaDoorRows
import Derived.ProofKit
import Derived.OpenShut
import Derived.WalkSpells
import Derived.WalkLawsBesides
import Derived.Laws.Externs
import Derived.Laws.Bits64b
import Derived.Handy
import Derived.Deep.RegionWith
import Derived.Deep.QuietTactic
import Derived.BigQuiet
import Derived.Deep.RegionHeld3
import Derived.Deep.CutRange
import Derived.Deep.CutBlock
import Derived.Deep.LoopGhost
import Derived.WalkSmall
import Derived.Deep.Quiet
import Derived.StillTail
import Derived.Test.YtgocelaghggpmaaDoorShelf
import Derived.Lib.AppendIntMem
import Derived.Lib.ItoaLen
import Derived.ChangeSame
import Derived.JoinedOf
import Derived.JoinedAt
import Derived.RowKit3
import Derived.Lib.LaidTab
import Derived.Stop.LaidErr
import Derived.MakeChecks
import Derived.Test.YtgocelaghggpmaaDoorKa01
import Derived.Test.YtgocelaghggpmaaDoorKa02
import Derived.Test.YtgocelaghggpmaaDoorKa03
import Derived.Test.YtgocelaghggpmaaDoorKa04
import Derived.Test.YtgocelaghggpmaaDoorKa05
import Derived.Test.YtgocelaghggpmaaDoorKa06
import Derived.Test.YtgocelaghggpmaaDoorKa07
import Derived.Test.YtgocelaghggpmaaDoorKa08
import Derived.Test.YtgocelaghggpmaaDoorKa09
import Derived.Test.YtgocelaghggpmaaDoorKa10
import Derived.Test.YtgocelaghggpmaaDoorKa11
import Derived.Test.YtgocelaghggpmaaDoorKa12
import Derived.Test.YtgocelaghggpmaaDoorKa13
import Derived.Test.YtgocelaghggpmaaDoorKa14
import Derived.Test.YtgocelaghggpmaaDoorKa15
import Derived.Test.YtgocelaghggpmaaDoorKa16
import Derived.Test.YtgocelaghggpmaaDoorKa17
import Derived.Test.YtgocelaghggpmaaDoorKa18
import Derived.Test.YtgocelaghggpmaaDoorKa19
import Derived.Test.YtgocelaghggpmaaDoorKa20
import Derived.Test.YtgocelaghggpmaaDoorKa21
import Derived.Test.YtgocelaghggpmaaDoorKa22
import Derived.Test.YtgocelaghggpmaaDoorKa23
import Derived.Test.YtgocelaghggpmaaDoorKa24
import Derived.Test.YtgocelaghggpmaaDoorKa25
import Derived.Test.YtgocelaghggpmaaDoorKa26
import Derived.Test.YtgocelaghggpmaaDoorKa27
import Derived.Test.YtgocelaghggpmaaDoorKa28
import Derived.Test.YtgocelaghggpmaaDoorKa29
import Derived.Test.YtgocelaghggpmaaDoorKa30
import Derived.Test.YtgocelaghggpmaaDoorKa31
import Derived.Test.YtgocelaghggpmaaDoorKa32
import Derived.Test.YtgocelaghggpmaaDoorKa33
import Derived.Test.YtgocelaghggpmaaDoorKa34
import Derived.Test.YtgocelaghggpmaaDoorKa35
import Derived.Test.YtgocelaghggpmaaDoorKt03
namespace Go.Proofs.YtgocelaghggpmaaDoor
open Go.ChangeShapes Go.WideShapes Go.ChangeAt Go.RowKit
theorem big_nil (w:World):BigIs w (.slice none 0 0) 0:=⟨[],Digs.nil,trimmed_nil,rfl,World.ownsRow_nil _ _ _ _⟩
set_option maxHeartbeats 1000000 in
theorem prod_w (g h:Bool) (va vb:Value) (m n K:Nat) (e f:Int) (hK:K≤1000000) (hm:m<2^K) (hn:n<2^K) (he:-100000≤e∧e≤100000) (hf:-100000≤f∧f≤100000) (w:World) (ha:BigIs w va m) (hb:BigIs w vb n) :
   Calls Tryd.prog 125 #[.agg #[.bool g,va,.int .i64 e],.agg #[.bool h,vb,.int .i64 f]] w fun r w' =>
     (∃s v E,r=.returned (.agg #[.bool s,v,.int .i64 E])∧BigIs w' v (m*n)∧(m*n=0→s=false∧E=0)∧(m*n≠0→s=(g != h)∧E=e+f))∧Below w.heap.size w w':=by
 obtain⟨ao,l,ca,rfl, -⟩:=ha.shape
 obtain⟨bo,k,cc,rfl, -⟩:=hb.shape
 have cb:=fun W (hW:Below w.heap.size w W)=>by_w _ _ m n K hK hm hn W (ha.keep hW) (hb.keep hW)
 clear hm hn
 generalize m*n=p at *
 by_cases h0:p=0
 · subst h0
   go_enter Tryd.func125,Tryd.ntmps125
   go_wp2_with
    (go_at_call 28;refine (cb _ (by go_grown)).mono ?_;rintro _ w1 ⟨⟨v,rfl,hv⟩,hb1⟩
     obtain⟨o1,l1,p1,rfl,hl⟩:=hv.shape
     have hl0:l1=0:=hl.2 rfl
     subst hl0
     have R:Has3 w1 (w.heap.size+1+1) (.bool false) (.slice none 0 0) (.int .i64 0):=Has3.keep ⟨by go_simp,by go_simp,by go_simp,by go_simp,by go_simp,by go_simp,by go_size⟩ hb1
     obtain⟨z0,z1,z2,z3,z4,z5,z6⟩:=R
     have HB:Below w.heap.size w w1:=later (by go_grown) hb1)
   refine bodyPost_ret (v:=.agg #[.bool false,.slice none 0 0,.int .i64 0]) (by simp [results,Tryd.results125,go_sem, *]) rfl ⟨⟨_,_,_,rfl,big_nil _,fun _=>⟨rfl,rfl⟩,fun c=>absurd rfl c⟩, ?_⟩
   repeat' (first | (with_reducible exact HB) | (with_reducible refine Below.setCell ?_ ?_ _) | go_size)
 · go_enter Tryd.func125,Tryd.ntmps125
   go_wp2_with
    (go_at_call 28;refine (cb _ (by go_grown)).mono ?_;rintro _ w1 ⟨⟨v,rfl,hv⟩,hb1⟩
     obtain⟨o1,l1,p1,rfl,hl⟩:=hv.shape
     have hl0:((l1:Int)==0)=false:=by rw [beq_eq_false_iff_ne];intro c;exact h0 (hl.1 (by omega))
     clear hl
     have X:Has3 w1 w.heap.size (.bool g) (.slice ao l ca) (.int .i64 e):=Has3.keep ⟨by go_simp,by go_simp,by go_simp,by go_simp,by go_simp,by go_simp,by go_size⟩ hb1
     have Y:Has3 w1 (w.heap.size+1) (.bool h) (.slice bo k cc) (.int .i64 f):=Has3.keep ⟨by go_simp,by go_simp,by go_simp,by go_simp,by go_simp,by go_simp,by go_size⟩ hb1
     have R:Has3 w1 (w.heap.size+1+1) (.bool false) (.slice none 0 0) (.int .i64 0):=Has3.keep ⟨by go_simp,by go_simp,by go_simp,by go_simp,by go_simp,by go_simp,by go_size⟩ hb1
     obtain⟨x0,x1,x2, -⟩:=X
     obtain⟨y0,y1,y2, -⟩:=Y
     obtain⟨z0,z1,z2,z3,z4,z5,z6⟩:=R
     obtain⟨-, -,B2⟩:=boxed3 w _ _ _
     replace B2:=B2.keep hb1
     have HB:Below w.heap.size w w1:=later (by go_grown) hb1)
   refine bodyPost_ret (v:=.agg #[.bool (!(g==h)),.slice o1 l1 p1,.int .i64 (e+f)]) (by simp [results,Tryd.results125,go_sem, *]) rfl ⟨⟨_,_,_,rfl, ?_,fun c=>absurd c h0,fun _=>⟨by cases g <;> cases h <;> rfl,rfl⟩⟩, ?_⟩
   all_goals repeat' (first | (with_reducible exact hv) | (with_reducible exact HB) | (with_reducible exact B2) | (with_reducible refine BigIs.put ?_ ?_ _ _) | (with_reducible refine Boxed.set ?_ _ _ _) | (with_reducible refine Below.setCell ?_ ?_ _) | go_size)
theorem sgnd_mul (g:Bool) (A t:Nat):sgnd g (A*t)=sgnd g A*(t:Int):=by
 unfold sgnd;cases g <;> simp [Int.neg_mul]
theorem sum_zero_a (g h:Bool) (va vb:Value) (n:Nat) (e f:Int) (w:World) (ha:BigIs w va 0) (hb:BigIs w vb n) :
   Calls Tryd.prog 83 #[.agg #[.bool g,va,.int .i64 e],.agg #[.bool h,vb,.int .i64 f]] w fun r w' =>
     r=.returned (.agg #[.bool h,vb,.int .i64 f])∧Below w.heap.size w w':=by
 obtain⟨ao,l,ca,rfl,hl⟩:=ha.shape
 obtain⟨bo,k,cc,rfl, -⟩:=hb.shape
 have:l=0:=hl.2 rfl
 subst this
 go_enter Tryd.func83,Tryd.ntmps83
 go_wp2
 refine bodyPost_ret (v:=.agg #[.bool h,.slice bo k cc,.int .i64 f]) (by simp [results,Tryd.results83,go_sem, *]) rfl ⟨rfl,by go_grown⟩
theorem sum_zero_b (g h:Bool) (va vb:Value) (m:Nat) (e f:Int) (hm:m≠0) (w:World) (ha:BigIs w va m) (hb:BigIs w vb 0) :
   Calls Tryd.prog 83 #[.agg #[.bool g,va,.int .i64 e],.agg #[.bool h,vb,.int .i64 f]] w fun r w' =>
     r=.returned (.agg #[.bool g,va,.int .i64 e])∧Below w.heap.size w w':=by
 obtain⟨ao,l,ca,rfl,hl⟩:=ha.shape
 obtain⟨bo,k,cc,rfl,hk⟩:=hb.shape
 have:k=0:=hk.2 rfl
 subst this
 have hl0:((l:Int)==0)=false:=by rw [beq_eq_false_iff_ne];intro c;exact hm (hl.1 (by omega))
 clear hl hk
 go_enter Tryd.func83,Tryd.ntmps83
 go_wp2
 refine bodyPost_ret (v:=.agg #[.bool g,.slice ao l ca,.int .i64 e]) (by simp [results,Tryd.results83,go_sem, *]) rfl ⟨rfl,by go_grown⟩
set_option maxHeartbeats 2000000 in
theorem sum_same (g h:Bool) (ao bo:Option Addr) (l k ca cc m' n':Nat) (e f E:Int) (w:World) (hl:((l:Int)==0)=false) (hk:((k:Int)==0)=false)
   (cl:∀W,Below w.heap.size w W→Calls Tryd.prog 127 #[.agg #[.bool g,.slice ao l ca,.int .i64 e],.agg #[.bool h,.slice bo k cc,.int .i64 f]] W fun r w' =>
     (∃v1 v2,r=.returned (.tuple #[.agg #[.bool g,v1,.int .i64 E],.agg #[.bool h,v2,.int .i64 E]])∧BigIs w' v1 m'∧BigIs w' v2 n')∧Below W.heap.size W w')
   (M:Nat) (cp:∀W v1 v2,BigIs W v1 m'→BigIs W v2 n'→Calls Tryd.prog 55 #[v1,v2] W fun r w'=>(∃v',r=.returned v'∧BigIs w' v' M)∧Below W.heap.size W w')
   (hgh:g=h) :
   Calls Tryd.prog 83 #[.agg #[.bool g,.slice ao l ca,.int .i64 e],.agg #[.bool h,.slice bo k cc,.int .i64 f]] w fun r w' =>
     (∃v,r=.returned (.agg #[.bool g,v,.int .i64 E])∧BigIs w' v M)∧Below w.heap.size w w':=by
 subst hgh
 go_enter Tryd.func83,Tryd.ntmps83
 go_upto_region 6 with
  (go_at_call 127;refine (cl _ (by go_grown)).mono ?_;rintro _ w4 ⟨⟨v1,v2,rfl,hv1,hv2⟩,hb1⟩
   obtain⟨o1,l1,p1,rfl, -⟩:=hv1.shape
   obtain⟨o2,l2,p2,rfl, -⟩:=hv2.shape
   have R:Has3 w4 (w.heap.size+1+1) (.bool false) (.slice none 0 0) (.int .i64 0):=Has3.keep ⟨by go_simp,by go_simp,by go_simp,by go_simp,by go_simp,by go_simp,by go_size⟩ hb1
   obtain⟨-, -,B2⟩:=boxed3 w _ _ _
   replace B2:=B2.keep hb1
   have HB:Below w.heap.size w w4:=later (by go_grown) hb1)
 clear cl hb1
 have hlt:=R.2.2.2.2.2.2
 have hz:Below w4.heap.size w4 ((w4.alloc (.cells #[.bool g,.slice o1 l1 p1,.int .i64 E] 76)).alloc (.cells #[.bool g,.slice o2 l2 p2,.int .i64 E] 76)):=by go_grown
 have C:Has3 ((w4.alloc (.cells #[.bool g,.slice o1 l1 p1,.int .i64 E] 76)).alloc (.cells #[.bool g,.slice o2 l2 p2,.int .i64 E] 76)) w4.heap.size (.bool g) (.slice o1 l1 p1) (.int .i64 E):=⟨by go_simp,by go_simp,by go_simp,by go_simp,by go_simp,by go_simp,by go_size⟩
 have D:Has3 ((w4.alloc (.cells #[.bool g,.slice o1 l1 p1,.int .i64 E] 76)).alloc (.cells #[.bool g,.slice o2 l2 p2,.int .i64 E] 76)) (w4.heap.size+1) (.bool g) (.slice o2 l2 p2) (.int .i64 E):=⟨by go_simp,by go_simp,by go_simp,by go_simp,by go_simp,by go_simp,by go_size⟩
 replace R:=R.keep hz
 replace B2:=B2.keep hz
 replace hv1:=hv1.keep hz
 replace hv2:=hv2.keep hz
 replace HB:=later HB hz
 clear hz
 generalize ((w4.alloc (.cells #[.bool g,.slice o1 l1 p1,.int .i64 E] 76)).alloc (.cells #[.bool g,.slice o2 l2 p2,.int .i64 E] 76))=W at *
 generalize w4.heap.size=q at *
 have ne1:q≠w.heap.size+1+1:=by omega
 have ne2:q+1≠w.heap.size+1+1:=by omega
 have ne3:w.heap.size+1+1≠q:=by omega
 have ne4:w.heap.size+1+1≠q+1:=by omega
 have x0:=C.1
 have x1:=C.2.1
 have x2:=C.2.2.1
 have y0:=D.1
 have y1:=D.2.1
 go_upto_region 7 with fail
 clear x0 x1 x2 y0 y1
 replace C:=C.drew
 replace D:=D.drew
 replace R:=R.drew
 replace B2:Boxed W.drew (w.heap.size+1+1):=B2
 replace hv1:=hv1.drew
 replace hv2:=hv2.drew
 replace HB:=HB.drew
 go_region_held3 (fun w'=>w'.cell? ⟨q,0,none⟩=some (.bool g)∧w'.cell? ⟨q+1,0,none⟩=some (.bool g)∧w'.cell? ⟨q,1,none⟩=some (.slice o1 l1 p1)∧w'.cell? ⟨q+1,1,none⟩=some (.slice o2 l2 p2)∧w'.cell? ⟨q,2,none⟩=some (.int .i64 E)) (first | exact⟨C.1,D.1,C.2.1,D.2.1,C.2.2.1⟩ | exact⟨(C.far ne3 _ _ _).1,(D.far ne4 _ _ _).1,(C.far ne3 _ _ _).2.1,(D.far ne4 _ _ _).2.1,(C.far ne3 _ _ _).2.2.1⟩ | go_keep)
   ((go_at_call 55;refine (cp _ _ _ hv1 hv2).mono ?_;rintro _ w6 ⟨⟨v3,rfl,hv3⟩,hb6⟩
     obtain⟨o3,l3,p3,rfl, -⟩:=hv3.shape
     replace C:=C.keep hb6
     replace D:=D.keep hb6
     replace R:=R.keep hb6
     replace B2:=B2.keep hb6
     replace HB:=later HB hb6
     obtain⟨z0,z1,z2,z3,z4,z5,z6⟩:=R))
 all_goals
   go_wp2_with fail
   refine bodyPost_ret (v:=.agg #[.bool g,.slice o3 l3 p3,.int .i64 E]) (by simp [results,Tryd.results83,go_sem, *]) rfl ⟨⟨_,rfl, ?_⟩, ?_⟩
   all_goals repeat' (first | (with_reducible exact hv3) | (with_reducible exact HB) | (with_reducible exact B2) | (with_reducible refine BigIs.put ?_ ?_ _ _) | (with_reducible refine Boxed.set ?_ _ _ _) | (with_reducible refine Below.setCell ?_ ?_ _) | go_size)
set_option maxHeartbeats 2000000 in
theorem sum_eq (g h:Bool) (ao bo:Option Addr) (l k ca cc m' n':Nat) (e f E:Int) (w:World) (hl:((l:Int)==0)=false) (hk:((k:Int)==0)=false)
   (cl:∀W,Below w.heap.size w W→Calls Tryd.prog 127 #[.agg #[.bool g,.slice ao l ca,.int .i64 e],.agg #[.bool h,.slice bo k cc,.int .i64 f]] W fun r w' =>
     (∃v1 v2,r=.returned (.tuple #[.agg #[.bool g,v1,.int .i64 E],.agg #[.bool h,v2,.int .i64 E]])∧BigIs w' v1 m'∧BigIs w' v2 n')∧Below W.heap.size W w')
   (t:Int) (cm:∀W v1 v2,BigIs W v1 m'→BigIs W v2 n'→Calls Tryd.prog 62 #[v1,v2] W fun r w'=>r=.returned (.int .i64 t)∧Below W.heap.size W w')
   (hgh:(g==h)=false) (ht:t=0) :
   Calls Tryd.prog 83 #[.agg #[.bool g,.slice ao l ca,.int .i64 e],.agg #[.bool h,.slice bo k cc,.int .i64 f]] w fun r w' =>
     (∃v,r=.returned (.agg #[.bool false,v,.int .i64 0])∧BigIs w' v 0)∧Below w.heap.size w w':=by
 subst ht
 go_enter Tryd.func83,Tryd.ntmps83
 go_upto_region 6 with
  (go_at_call 127;refine (cl _ (by go_grown)).mono ?_;rintro _ w4 ⟨⟨v1,v2,rfl,hv1,hv2⟩,hb1⟩
   obtain⟨o1,l1,p1,rfl, -⟩:=hv1.shape
   obtain⟨o2,l2,p2,rfl, -⟩:=hv2.shape
   have R:Has3 w4 (w.heap.size+1+1) (.bool false) (.slice none 0 0) (.int .i64 0):=Has3.keep ⟨by go_simp,by go_simp,by go_simp,by go_simp,by go_simp,by go_simp,by go_size⟩ hb1
   obtain⟨-, -,B2⟩:=boxed3 w _ _ _
   replace B2:=B2.keep hb1
   have HB:Below w.heap.size w w4:=later (by go_grown) hb1)
 clear cl hb1
 have hlt:=R.2.2.2.2.2.2
 have hz:Below w4.heap.size w4 ((w4.alloc (.cells #[.bool g,.slice o1 l1 p1,.int .i64 E] 76)).alloc (.cells #[.bool h,.slice o2 l2 p2,.int .i64 E] 76)):=by go_grown
 have C:Has3 ((w4.alloc (.cells #[.bool g,.slice o1 l1 p1,.int .i64 E] 76)).alloc (.cells #[.bool h,.slice o2 l2 p2,.int .i64 E] 76)) w4.heap.size (.bool g) (.slice o1 l1 p1) (.int .i64 E):=⟨by go_simp,by go_simp,by go_simp,by go_simp,by go_simp,by go_simp,by go_size⟩
 have D:Has3 ((w4.alloc (.cells #[.bool g,.slice o1 l1 p1,.int .i64 E] 76)).alloc (.cells #[.bool h,.slice o2 l2 p2,.int .i64 E] 76)) (w4.heap.size+1) (.bool h) (.slice o2 l2 p2) (.int .i64 E):=⟨by go_simp,by go_simp,by go_simp,by go_simp,by go_simp,by go_simp,by go_size⟩
 replace R:=R.keep hz
 replace B2:=B2.keep hz
 replace hv1:=hv1.keep hz
 replace hv2:=hv2.keep hz
 replace HB:=later HB hz
 clear hz
 generalize ((w4.alloc (.cells #[.bool g,.slice o1 l1 p1,.int .i64 E] 76)).alloc (.cells #[.bool h,.slice o2 l2 p2,.int .i64 E] 76))=W at *
 generalize w4.heap.size=q at *
 have ne1:q≠w.heap.size+1+1:=by omega
 have ne2:q+1≠w.heap.size+1+1:=by omega
 have ne3:w.heap.size+1+1≠q:=by omega
 have ne4:w.heap.size+1+1≠q+1:=by omega
 have x0:=C.1
 have x1:=C.2.1
 have x2:=C.2.2.1
 have y0:=D.1
 have y1:=D.2.1
 go_wp2_with
  (go_at_call 62;refine (cm _ _ _ hv1 hv2).mono ?_;rintro _ w5 ⟨rfl,hb5⟩
   replace C:=C.keep hb5
   replace D:=D.keep hb5
   replace R:=R.keep hb5
   replace B2:=B2.keep hb5
   replace hv1:=hv1.keep hb5
   replace hv2:=hv2.keep hb5
   replace HB:=later HB hb5
   obtain⟨z0,z1,z2,z3,z4,z5,z6⟩:=R)
 refine bodyPost_ret (v:=.agg #[.bool false,.slice none 0 0,.int .i64 0]) (by simp [results,Tryd.results83,go_sem, *]) rfl ⟨⟨_,rfl,big_nil _⟩, ?_⟩
 repeat' (first | (with_reducible exact HB) | (with_reducible refine Below.setCell ?_ ?_ _) | go_size)
set_option maxHeartbeats 2000000 in
theorem sum_gt (g h:Bool) (ao bo:Option Addr) (l k ca cc m' n':Nat) (e f E:Int) (w:World) (hl:((l:Int)==0)=false) (hk:((k:Int)==0)=false)
   (cl:∀W,Below w.heap.size w W→Calls Tryd.prog 127 #[.agg #[.bool g,.slice ao l ca,.int .i64 e],.agg #[.bool h,.slice bo k cc,.int .i64 f]] W fun r w' =>
     (∃v1 v2,r=.returned (.tuple #[.agg #[.bool g,v1,.int .i64 E],.agg #[.bool h,v2,.int .i64 E]])∧BigIs w' v1 m'∧BigIs w' v2 n')∧Below W.heap.size W w')
   (M:Nat) (cp:∀W v1 v2,BigIs W v1 m'→BigIs W v2 n'→Calls Tryd.prog 112 #[v1,v2] W fun r w'=>(∃v',r=.returned v'∧BigIs w' v' M)∧Below W.heap.size W w')
   (t:Int) (cm:∀W v1 v2,BigIs W v1 m'→BigIs W v2 n'→Calls Tryd.prog 62 #[v1,v2] W fun r w'=>r=.returned (.int .i64 t)∧Below W.heap.size W w')
   (hgh:(g==h)=false) (ht:t=1) :
   Calls Tryd.prog 83 #[.agg #[.bool g,.slice ao l ca,.int .i64 e],.agg #[.bool h,.slice bo k cc,.int .i64 f]] w fun r w' =>
     (∃v,r=.returned (.agg #[.bool g,v,.int .i64 E])∧BigIs w' v M)∧Below w.heap.size w w':=by
 subst ht
 go_enter Tryd.func83,Tryd.ntmps83
 go_upto_region 6 with
  (go_at_call 127;refine (cl _ (by go_grown)).mono ?_;rintro _ w4 ⟨⟨v1,v2,rfl,hv1,hv2⟩,hb1⟩
   obtain⟨o1,l1,p1,rfl, -⟩:=hv1.shape
   obtain⟨o2,l2,p2,rfl, -⟩:=hv2.shape
   have R:Has3 w4 (w.heap.size+1+1) (.bool false) (.slice none 0 0) (.int .i64 0):=Has3.keep ⟨by go_simp,by go_simp,by go_simp,by go_simp,by go_simp,by go_simp,by go_size⟩ hb1
   obtain⟨-, -,B2⟩:=boxed3 w _ _ _
   replace B2:=B2.keep hb1
   have HB:Below w.heap.size w w4:=later (by go_grown) hb1)
 clear cl hb1
 have hlt:=R.2.2.2.2.2.2
 have hz:Below w4.heap.size w4 ((w4.alloc (.cells #[.bool g,.slice o1 l1 p1,.int .i64 E] 76)).alloc (.cells #[.bool h,.slice o2 l2 p2,.int .i64 E] 76)):=by go_grown
 have C:Has3 ((w4.alloc (.cells #[.bool g,.slice o1 l1 p1,.int .i64 E] 76)).alloc (.cells #[.bool h,.slice o2 l2 p2,.int .i64 E] 76)) w4.heap.size (.bool g) (.slice o1 l1 p1) (.int .i64 E):=⟨by go_simp,by go_simp,by go_simp,by go_simp,by go_simp,by go_simp,by go_size⟩
 have D:Has3 ((w4.alloc (.cells #[.bool g,.slice o1 l1 p1,.int .i64 E] 76)).alloc (.cells #[.bool h,.slice o2 l2 p2,.int .i64 E] 76)) (w4.heap.size+1) (.bool h) (.slice o2 l2 p2) (.int .i64 E):=⟨by go_simp,by go_simp,by go_simp,by go_simp,by go_simp,by go_simp,by go_size⟩
 replace R:=R.keep hz
 replace B2:=B2.keep hz
 replace hv1:=hv1.keep hz
 replace hv2:=hv2.keep hz
 replace HB:=later HB hz
 clear hz
 generalize ((w4.alloc (.cells #[.bool g,.slice o1 l1 p1,.int .i64 E] 76)).alloc (.cells #[.bool h,.slice o2 l2 p2,.int .i64 E] 76))=W at *
 generalize w4.heap.size=q at *
 have ne1:q≠w.heap.size+1+1:=by omega
 have ne2:q+1≠w.heap.size+1+1:=by omega
 have ne3:w.heap.size+1+1≠q:=by omega
 have ne4:w.heap.size+1+1≠q+1:=by omega
 have x0:=C.1
 have x1:=C.2.1
 have x2:=C.2.2.1
 have y0:=D.1
 have y1:=D.2.1
 go_upto_region 12 with
  (go_at_call 62;refine (cm _ _ _ hv1 hv2).mono ?_;rintro _ w5 ⟨rfl,hb5⟩
   replace C:=C.keep hb5
   replace D:=D.keep hb5
   replace R:=R.keep hb5
   replace B2:=B2.keep hb5
   replace hv1:=hv1.keep hb5
   replace hv2:=hv2.keep hb5
   replace HB:=later HB hb5)
 clear x0 x1 x2 y0 y1 hb5
 replace C:=C.drew
 replace D:=D.drew
 replace R:=R.drew
 replace B2:Boxed w5.drew (w.heap.size+1+1):=B2
 replace hv1:=hv1.drew
 replace hv2:=hv2.drew
 replace HB:=HB.drew
 go_region_held3 (fun w'=>w'.cell? ⟨q,0,none⟩=some (.bool g)∧w'.cell? ⟨q+1,0,none⟩=some (.bool h)∧w'.cell? ⟨q,1,none⟩=some (.slice o1 l1 p1)∧w'.cell? ⟨q+1,1,none⟩=some (.slice o2 l2 p2)∧w'.cell? ⟨q,2,none⟩=some (.int .i64 E)) (first | exact⟨C.1,D.1,C.2.1,D.2.1,C.2.2.1⟩ | exact⟨(C.far ne3 _ _ _).1,(D.far ne4 _ _ _).1,(C.far ne3 _ _ _).2.1,(D.far ne4 _ _ _).2.1,(C.far ne3 _ _ _).2.2.1⟩ | go_keep)
   ((go_at_call 112;refine (cp _ _ _ hv1 hv2).mono ?_;rintro _ w6 ⟨⟨v3,rfl,hv3⟩,hb6⟩
     obtain⟨o3,l3,p3,rfl, -⟩:=hv3.shape
     replace C:=C.keep hb6
     replace D:=D.keep hb6
     replace R:=R.keep hb6
     replace B2:=B2.keep hb6
     replace HB:=later HB hb6
     obtain⟨z0,z1,z2,z3,z4,z5,z6⟩:=R))
 all_goals
   go_wp2_with fail
   refine bodyPost_ret (v:=.agg #[.bool g,.slice o3 l3 p3,.int .i64 E]) (by simp [results,Tryd.results83,go_sem, *]) rfl ⟨⟨_,rfl, ?_⟩, ?_⟩
   all_goals repeat' (first | (with_reducible exact hv3) | (with_reducible exact HB) | (with_reducible exact B2) | (with_reducible refine BigIs.put ?_ ?_ _ _) | (with_reducible refine Boxed.set ?_ _ _ _) | (with_reducible refine Below.setCell ?_ ?_ _) | go_size)
set_option maxHeartbeats 2000000 in
theorem sum_lt (g h:Bool) (ao bo:Option Addr) (l k ca cc m' n':Nat) (e f E:Int) (w:World) (hl:((l:Int)==0)=false) (hk:((k:Int)==0)=false)
   (cl:∀W,Below w.heap.size w W→Calls Tryd.prog 127 #[.agg #[.bool g,.slice ao l ca,.int .i64 e],.agg #[.bool h,.slice bo k cc,.int .i64 f]] W fun r w' =>
     (∃v1 v2,r=.returned (.tuple #[.agg #[.bool g,v1,.int .i64 E],.agg #[.bool h,v2,.int .i64 E]])∧BigIs w' v1 m'∧BigIs w' v2 n')∧Below W.heap.size W w')
   (M:Nat) (cp:∀W v1 v2,BigIs W v1 m'→BigIs W v2 n'→Calls Tryd.prog 112 #[v2,v1] W fun r w'=>(∃v',r=.returned v'∧BigIs w' v' M)∧Below W.heap.size W w')
   (t:Int) (cm:∀W v1 v2,BigIs W v1 m'→BigIs W v2 n'→Calls Tryd.prog 62 #[v1,v2] W fun r w'=>r=.returned (.int .i64 t)∧Below W.heap.size W w')
   (hgh:(g==h)=false) (ht:t=-1) :
   Calls Tryd.prog 83 #[.agg #[.bool g,.slice ao l ca,.int .i64 e],.agg #[.bool h,.slice bo k cc,.int .i64 f]] w fun r w' =>
     (∃v,r=.returned (.agg #[.bool h,v,.int .i64 E])∧BigIs w' v M)∧Below w.heap.size w w':=by
 subst ht
 go_enter Tryd.func83,Tryd.ntmps83
 go_upto_region 6 with
  (go_at_call 127;refine (cl _ (by go_grown)).mono ?_;rintro _ w4 ⟨⟨v1,v2,rfl,hv1,hv2⟩,hb1⟩
   obtain⟨o1,l1,p1,rfl, -⟩:=hv1.shape
   obtain⟨o2,l2,p2,rfl, -⟩:=hv2.shape
   have R:Has3 w4 (w.heap.size+1+1) (.bool false) (.slice none 0 0) (.int .i64 0):=Has3.keep ⟨by go_simp,by go_simp,by go_simp,by go_simp,by go_simp,by go_simp,by go_size⟩ hb1
   obtain⟨-, -,B2⟩:=boxed3 w _ _ _
   replace B2:=B2.keep hb1
   have HB:Below w.heap.size w w4:=later (by go_grown) hb1)
 clear cl hb1
 have hlt:=R.2.2.2.2.2.2
 have hz:Below w4.heap.size w4 ((w4.alloc (.cells #[.bool g,.slice o1 l1 p1,.int .i64 E] 76)).alloc (.cells #[.bool h,.slice o2 l2 p2,.int .i64 E] 76)):=by go_grown
 have C:Has3 ((w4.alloc (.cells #[.bool g,.slice o1 l1 p1,.int .i64 E] 76)).alloc (.cells #[.bool h,.slice o2 l2 p2,.int .i64 E] 76)) w4.heap.size (.bool g) (.slice o1 l1 p1) (.int .i64 E):=⟨by go_simp,by go_simp,by go_simp,by go_simp,by go_simp,by go_simp,by go_size⟩
 have D:Has3 ((w4.alloc (.cells #[.bool g,.slice o1 l1 p1,.int .i64 E] 76)).alloc (.cells #[.bool h,.slice o2 l2 p2,.int .i64 E] 76)) (w4.heap.size+1) (.bool h) (.slice o2 l2 p2) (.int .i64 E):=⟨by go_simp,by go_simp,by go_simp,by go_simp,by go_simp,by go_simp,by go_size⟩
 replace R:=R.keep hz
 replace B2:=B2.keep hz
 replace hv1:=hv1.keep hz
 replace hv2:=hv2.keep hz
 replace HB:=later HB hz
 clear hz
 generalize ((w4.alloc (.cells #[.bool g,.slice o1 l1 p1,.int .i64 E] 76)).alloc (.cells #[.bool h,.slice o2 l2 p2,.int .i64 E] 76))=W at *
 generalize w4.heap.size=q at *
 have ne1:q≠w.heap.size+1+1:=by omega
 have ne2:q+1≠w.heap.size+1+1:=by omega
 have ne3:w.heap.size+1+1≠q:=by omega
 have ne4:w.heap.size+1+1≠q+1:=by omega
 have x0:=C.1
 have x1:=C.2.1
 have x2:=C.2.2.1
 have y0:=D.1
 have y1:=D.2.1
 go_upto_region 13 with
  (go_at_call 62;refine (cm _ _ _ hv1 hv2).mono ?_;rintro _ w5 ⟨rfl,hb5⟩
   replace C:=C.keep hb5
   replace D:=D.keep hb5
   replace R:=R.keep hb5
   replace B2:=B2.keep hb5
   replace hv1:=hv1.keep hb5
   replace hv2:=hv2.keep hb5
   replace HB:=later HB hb5)
 clear x0 x1 x2 y0 y1 hb5
 replace C:=C.drew
 replace D:=D.drew
 replace R:=R.drew
 replace B2:Boxed w5.drew (w.heap.size+1+1):=B2
 replace hv1:=hv1.drew
 replace hv2:=hv2.drew
 replace HB:=HB.drew
 go_region_held3 (fun w'=>w'.cell? ⟨q,0,none⟩=some (.bool g)∧w'.cell? ⟨q+1,0,none⟩=some (.bool h)∧w'.cell? ⟨q,1,none⟩=some (.slice o1 l1 p1)∧w'.cell? ⟨q+1,1,none⟩=some (.slice o2 l2 p2)∧w'.cell? ⟨q,2,none⟩=some (.int .i64 E)) (first | exact⟨C.1,D.1,C.2.1,D.2.1,C.2.2.1⟩ | exact⟨(C.far ne3 _ _ _).1,(D.far ne4 _ _ _).1,(C.far ne3 _ _ _).2.1,(D.far ne4 _ _ _).2.1,(C.far ne3 _ _ _).2.2.1⟩ | go_keep)
   ((go_at_call 112;refine (cp _ _ _ hv1 hv2).mono ?_;rintro _ w6 ⟨⟨v3,rfl,hv3⟩,hb6⟩
     obtain⟨o3,l3,p3,rfl, -⟩:=hv3.shape
     replace C:=C.keep hb6
     replace D:=D.keep hb6
     replace R:=R.keep hb6
     replace B2:=B2.keep hb6
     replace HB:=later HB hb6
     obtain⟨z0,z1,z2,z3,z4,z5,z6⟩:=R))
 all_goals
   go_wp2_with fail
   refine bodyPost_ret (v:=.agg #[.bool h,.slice o3 l3 p3,.int .i64 E]) (by simp [results,Tryd.results83,go_sem, *]) rfl ⟨⟨_,rfl, ?_⟩, ?_⟩
   all_goals repeat' (first | (with_reducible exact hv3) | (with_reducible exact HB) | (with_reducible exact B2) | (with_reducible refine BigIs.put ?_ ?_ _ _) | (with_reducible refine Boxed.set ?_ _ _ _) | (with_reducible refine Below.setCell ?_ ?_ _) | go_size)
def NumZ (S T:Int) (K:Nat) (w:World) (x:Value) (z:Int):Prop :=
 ∃g v m e,x=.agg #[.bool g,v,.int .i64 e]∧BigIs w v m∧m<2^K∧S≤e∧e≤T∧sgnd g (m*2^(e-S).toNat)=z
theorem NumZ.keep {S T:Int} {K:Nat} {w w':World} {x:Value} {z:Int} (h:NumZ S T K w x z) (hb:Below w.heap.size w w'):NumZ S T K w' x z:=by
 obtain⟨g,v,m,e,h1,h2,h3⟩:=h
 exact⟨g,v,m,e,h1,h2.keep hb,h3⟩
theorem NumZ.wide {S T T':Int} {K K':Nat} {w:World} {x:Value} {z:Int} (h:NumZ S T K w x z) (hT:T≤T') (hK:K≤K'):NumZ S T' K' w x z:=by
 obtain⟨g,v,m,e,h1,h2,h3,h4,h5,h6⟩:=h
 exact⟨g,v,m,e,h1,h2,Nat.lt_of_lt_of_le h3 (Nat.pow_le_pow_right (by omega) hK),h4,by omega,h6⟩
theorem NumZ.scale {S T:Int} {K:Nat} {w:World} {x:Value} {z:Int} (h:NumZ S T K w x z) {S':Int} {t:Nat} (ht:S=S'+t):NumZ S' T K w x (z*((2^t:Nat):Int)):=by
 obtain⟨g,v,m,e,h1,h2,h3,h4,h5,h6⟩:=h
 refine⟨g,v,m,e,h1,h2,h3,by omega,h5, ?_⟩
 have e1:(e-S').toNat=(e-S).toNat+t:=by omega
 rw [e1,Nat.pow_add,←Nat.mul_assoc,sgnd_mul,h6]
theorem NumZ.shape {S T:Int} {K:Nat} {w:World} {x:Value} {z:Int} (h:NumZ S T K w x z):∃g ao l ca e,x=.agg #[.bool g,.slice ao l ca,.int .i64 e]:=by
 obtain⟨g,v,m,e,h1,h2, -⟩:=h
 obtain⟨ao,l,ca,rfl, -⟩:=h2.shape
 exact⟨g,ao,l,ca,e,h1⟩
theorem signZ_cmp {g:Bool} {m A:Nat} (h:A=0↔m=0):signZ g m=cmpZ (sgnd g A) 0:=by
 obtain⟨a1,a2,a3,a4⟩:=sgnd_sign (g:=g) h
 generalize sgnd g A=x at *
 unfold cmpZ
 by_cases c1:x<0
 · rw [if_pos c1];omega
 · rw [if_neg c1]
   by_cases c2:0<x
   · rw [if_pos c2];omega
   · rw [if_neg c2];omega
theorem sign_z {S T:Int} {K:Nat} {w:World} {x:Value} {z:Int} (h:NumZ S T K w x z) :
   Calls Tryd.prog 123 #[x] w fun r w'=>r=.returned (.int .i64 (cmpZ z 0))∧Below w.heap.size w w':=by
 obtain⟨g,v,m,e,rfl,h2,h3,h4,h5,rfl⟩:=h
 rw [←signZ_cmp (scale_zero m _)]
 exact sign_w g v m e w h2
theorem order_z {S T:Int} {K:Nat} {w:World} {x y:Value} {a b:Int} (hK:K≤500000) (hS:-50000≤S) (hT:T≤50000) (h1:NumZ S T K w x a) (h2:NumZ S T K w y b) :
   Calls Tryd.prog 124 #[x,y] w fun r w'=>r=.returned (.int .i64 (cmpZ a b))∧Below w.heap.size w w':=by
 obtain⟨g,v,m,e,rfl,a2,a3,a4,a5,rfl⟩:=h1
 obtain⟨h,u,n,f,rfl,b2,b3,b4,b5,rfl⟩:=h2
 exact order_w g h v u m n K e f S hK a3 b3 hS (by omega) (by omega) w a2 b2
theorem sgnd_prod (g h:Bool) (A B:Nat):sgnd (g != h) (A*B)=sgnd g A*sgnd h B:=by
 unfold sgnd
 cases g <;> cases h <;> simp [Int.neg_mul,Int.mul_neg]
theorem prod_z {S T S' T':Int} {K:Nat} {w:World} {x y:Value} {a b:Int} (hK:K≤200000) (hS:-25000≤S∧T≤25000) (hS':-25000≤S'∧T'≤25000) (h0:S+S'≤0∧0≤T+T') (h1:NumZ S T K w x a) (h2:NumZ S' T' K w y b) :
   Calls Tryd.prog 125 #[x,y] w fun r w'=>(∃v,r=.returned v∧NumZ (S+S') (T+T') (K+K) w' v (a*b))∧Below w.heap.size w w':=by
 obtain⟨g,v,m,e,rfl,a2,a3,a4,a5,rfl⟩:=h1
 obtain⟨h,u,n,f,rfl,b2,b3,b4,b5,rfl⟩:=h2
 refine (prod_w g h v u m n K e f (by omega) a3 b3 (by omega) (by omega) w a2 b2).mono ?_
 rintro _ w' ⟨⟨s,v',E,rfl,hv,z1,z2⟩,hb⟩
 refine⟨⟨_,rfl,s,v',m*n,E,rfl,hv, ?_, ?_⟩,hb⟩
 · rw [Nat.pow_add];exact Nat.mul_lt_mul'' a3 b3
 · by_cases c:m*n=0
   · obtain⟨rfl,rfl⟩:=z1 c
     refine⟨by omega,by omega, ?_⟩
     rw [←sgnd_prod]
     have e1:m*2^(e-S).toNat*(n*2^(f-S').toNat)=m*n*(2^(e-S).toNat*2^(f-S').toNat):=by
       rw [Nat.mul_mul_mul_comm]
     rw [e1,c,Nat.zero_mul,Nat.zero_mul]
     unfold sgnd
     cases (g != h) <;> rfl
   · obtain⟨rfl,rfl⟩:=z2 c
     refine⟨by omega,by omega, ?_⟩
     rw [←sgnd_prod]
     have e2:(e+f-(S+S')).toNat=(e-S).toNat+(f-S').toNat:=by omega
     rw [e2,Nat.pow_add,Nat.mul_mul_mul_comm]
theorem sgnd_add_same (g:Bool) (A B:Nat):sgnd g (A+B)=sgnd g A+sgnd g B:=by
 unfold sgnd;cases g <;> simp <;> omega
theorem sgnd_sub (g h:Bool) (hne:g≠h) {A B:Nat} (hle:B≤A):sgnd g (A-B)=sgnd g A+sgnd h B:=by
 unfold sgnd
 cases g <;> cases h <;> simp at hne ⊢ <;> omega
theorem sum_z {S T:Int} {K L:Nat} {w:World} {x y:Value} {a b:Int} (hK:K≤200000) (hS:-25000≤S∧S≤0) (hT:T≤25000∧0≤T) (hL:(K:Int)+(T-S)+1≤L) (h1:NumZ S T K w x a) (h2:NumZ S T K w y b) :
   Calls Tryd.prog 83 #[x,y] w fun r w'=>(∃v,r=.returned v∧NumZ S T L w' v (a+b))∧Below w.heap.size w w':=by
 have h1':=h1
 have h2':=h2
 obtain⟨g,v,m,e,rfl,a2,a3,a4,a5,rfl⟩:=h1
 obtain⟨h,u,n,f,rfl,b2,b3,b4,b5,rfl⟩:=h2
 have zs:∀(g:Bool) (t:Nat),sgnd g (0*t)=0:=fun g t=>by rw [Nat.zero_mul];unfold sgnd;cases g <;> rfl
 by_cases m0:m=0
 · subst m0
   refine (sum_zero_a g h v u n e f w a2 b2).mono ?_
   rintro _ w' ⟨rfl,hb⟩
   rw [zs,Int.zero_add]
   exact⟨⟨_,rfl,(h2'.wide (Int.le_refl _) (by omega)).keep hb⟩,hb⟩
 · by_cases n0:n=0
   · subst n0
     refine (sum_zero_b g h v u m e f m0 w a2 b2).mono ?_
     rintro _ w' ⟨rfl,hb⟩
     rw [zs,Int.add_zero]
     exact⟨⟨_,rfl,(h1'.wide (Int.le_refl _) (by omega)).keep hb⟩,hb⟩
   · clear h1' h2' zs
     have cl:=fun W (hW:Below w.heap.size w W)=>level_w g h v u m n K e f (by omega) a3 b3 (by omega) (by omega) W (a2.keep hW) (b2.keep hW)
     obtain⟨ao,l,ca,rfl,hl⟩:=a2.shape
     obtain⟨bo,k,cc,rfl,hk⟩:=b2.shape
     have hl0:((l:Int)==0)=false:=by rw [beq_eq_false_iff_ne];intro c;exact m0 (hl.1 (by omega))
     have hk0:((k:Int)==0)=false:=by rw [beq_eq_false_iff_ne];intro c;exact n0 (hk.1 (by omega))
     obtain⟨E,hE⟩:∃E,E=min e f:=⟨_,rfl⟩
     have e1:(e-S).toNat=(e-E).toNat+(E-S).toNat:=by omega
     have e2:(f-S).toNat=(f-E).toNat+(E-S).toNat:=by omega
     rw [←hE] at cl
     obtain⟨J,hJ⟩:∃J:Nat,(J:Int)=T-S:=⟨(T-S).toNat,by omega⟩
     have p1:m*2^(e-E).toNat<2^(K+J):=pow_scale a3 (by omega)
     have p2:n*2^(f-E).toNat<2^(K+J):=pow_scale b3 (by omega)
     rw [e1,e2,Nat.pow_add,Nat.pow_add,←Nat.mul_assoc,←Nat.mul_assoc]
     generalize m*2^(e-E).toNat=A at *
     generalize n*2^(f-E).toNat=B at *
     rw [sgnd_mul g A,sgnd_mul h B,←Int.add_mul]
     have hKL:2^(K+J+1)≤2^L:=Nat.pow_le_pow_right (by omega) (by omega)
     rw [Nat.pow_succ] at hKL
     by_cases hgh:g=h
     · refine (sum_same g h ao bo l k ca cc A B e f E w hl0 hk0 cl (A+B) (fun W v1 v2 q1 q2=>plus_w v1 v2 A B (K+J) (by omega) p1 p2 W q1 q2) hgh).mono ?_
       rintro _ w' ⟨⟨v',rfl,hv⟩,hb⟩
       subst hgh
       exact⟨⟨_,rfl,g,v',A+B,E,rfl,hv,by omega,by omega,by omega,by rw [sgnd_mul,sgnd_add_same]⟩,hb⟩
     · have hgh':(g==h)=false:=by cases g <;> cases h <;> simp at hgh ⊢
       have cm:=fun W v1 v2 q1 q2=>cmp_w v1 v2 A B (K+J) (by omega) p1 p2 W q1 q2
       rcases Nat.lt_trichotomy A B with c | c | c
       · refine (sum_lt g h ao bo l k ca cc A B e f E w hl0 hk0 cl (B-A) (fun W v1 v2 q1 q2=>less_w v2 v1 B A (K+J) (by omega) p2 (by omega) W q2 q1) _ cm hgh' (cmpN_lt c)).mono ?_
         rintro _ w' ⟨⟨v',rfl,hv⟩,hb⟩
         exact⟨⟨_,rfl,h,v',B-A,E,rfl,hv,by omega,by omega,by omega,by rw [sgnd_mul,sgnd_sub h g (fun q=>hgh q.symm) (by omega),Int.add_comm]⟩,hb⟩
       · refine (sum_eq g h ao bo l k ca cc A B e f E w hl0 hk0 cl _ cm hgh' (cmpN_eq c)).mono ?_
         rintro _ w' ⟨⟨v',rfl,hv⟩,hb⟩
         subst c
         refine⟨⟨_,rfl,false,v',0,0,rfl,hv,Nat.two_pow_pos _,by omega,by omega, ?_⟩,hb⟩
         rw [←sgnd_sub g h hgh (Nat.le_refl A),Nat.sub_self,sgnd_mul]
         unfold sgnd
         cases g <;> simp
       · refine (sum_gt g h ao bo l k ca cc A B e f E w hl0 hk0 cl (A-B) (fun W v1 v2 q1 q2=>less_w v1 v2 A B (K+J) (by omega) p1 (by omega) W q1 q2) _ cm hgh' (cmpN_gt c)).mono ?_
         rintro _ w' ⟨⟨v',rfl,hv⟩,hb⟩
         exact⟨⟨_,rfl,g,v',A-B,E,rfl,hv,by omega,by omega,by omega,by rw [sgnd_mul,sgnd_sub g h hgh (by omega)]⟩,hb⟩
theorem top_bits {a b:Nat} (hb:b≠0) (h:bitsN b≤bitsN a):a<b*2^(bitsN a-bitsN b+1):=by
 obtain⟨t,e,h1,h2⟩:=bitsN_low hb
 have ha:a≠0:=by rintro rfl;have:bitsN 0=0:=rfl;omega
 obtain⟨s,f, -,h4⟩:=bitsN_low ha
 rw [e,f] at h ⊢
 have:2^t*2^(s+1-(t+1)+1)≤b*2^(s+1-(t+1)+1):=Nat.mul_le_mul_right _ h1
 rw [←Nat.pow_add,show t+(s+1-(t+1)+1)=s+1 by omega] at this
 omega
theorem less_bits {a b:Nat} (h:bitsN a<bitsN b):a<b:=by
 have hb:b≠0:=by rintro rfl;have:bitsN 0=0:=rfl;omega
 obtain⟨t,e,h1,h2⟩:=bitsN_low hb
 by_cases ha:a=0
 · omega
 obtain⟨s,f, -,h4⟩:=bitsN_low ha
 have:2^(s+1)≤2^t:=Nat.pow_le_pow_right (by omega) (by omega)
 omega
theorem cmpN_le {m n:Nat} (h:m≤n):cmpN m n≤0:=by unfold cmpN;split <;> (try split) <;> omega
theorem cmpN_nle {m n:Nat} (h:¬m≤n):¬cmpN m n≤0:=by unfold cmpN;split <;> (try split) <;> omega
theorem div_start {a b:Nat} (hb:b≠0):a<b*2^((bitsN a:Int)-(bitsN b:Int)+1).toNat:=by
 by_cases c:bitsN b≤bitsN a
 · rw [show ((bitsN a:Int)-(bitsN b:Int)+1).toNat=bitsN a-bitsN b+1 by omega]
   exact top_bits hb c
 · rw [show ((bitsN a:Int)-(bitsN b:Int)+1).toNat=0 by omega,Nat.pow_zero,Nat.mul_one]
   exact less_bits (by omega)
theorem bits_room {b t K:Nat} (hb:b<2^K):b*2^t<2^(K+t):=by
 rw [Nat.pow_add]
 exact Nat.mul_lt_mul_of_pos_right hb (Nat.two_pow_pos t)
theorem pow_up {r K t:Nat} (h:r<2^K):r<2^(K+t):=Nat.lt_of_lt_of_le h (Nat.pow_le_pow_right (by omega) (by omega))
theorem rest_step {b r k R:Nat} (h:r%b=R%b) (hl:r<b*2^(k+1)):(b*2^k≤r→(r-b*2^k)%b=R%b∧r-b*2^k<b*2^k)∧(¬b*2^k≤r→r<b*2^k):=by
 have e2:b*2^(k+1)=b*2^k+b*2^k:=by rw [Nat.pow_succ,←Nat.mul_assoc];omega
 refine⟨fun c=>⟨?_,by omega⟩,fun c=>by omega⟩
 rw [Nat.sub_mul_mod c,h]
set_option maxHeartbeats 4000000 in
theorem rest_w {ao bo:Option Addr} {l ca k cb:Nat} (a b K:Nat) (hK:K≤100000) (hb0:b≠0) (ha:a<2^K) (hb:b<2^K) (w:World) (A:BigIs w (.slice ao l ca) a) (B:BigIs w (.slice bo k cb) b) :
   Calls Tryd.prog 109 #[.slice ao l ca,.slice bo k cb] w fun r w'=>(∃v,r=.returned v∧BigIs w' v (a%b))∧Below w.heap.size w w':=by
 have c1:=bits_w (.slice ao l ca) a K (by omega) ha w A
 have c2:=bits_w (.slice bo k cb) b K (by omega) hb w B
 have n1:=bitsN_le ha
 have n2:=bitsN_le hb
 have HS:Hid (a<b*2^((bitsN a:Int)-(bitsN b:Int)+1).toNat):=div_start hb0
 generalize bitsN a=Na at *
 generalize bitsN b=Nb at *
 have i1:(Na:Int)≤100000:=by omega
 have i2:(Nb:Int)≤100000:=by omega
 go_enter Tryd.func109,Tryd.ntmps109
 go_upto_region 2 with (first
   | (go_at_call_of 110 (Value.slice ao l ca);(with_reducible refine c1.mono ?_);rintro _ _ ⟨rfl,rfl⟩)
   | (go_at_call_of 110 (Value.slice bo k cb);(with_reducible refine c2.mono ?_);rintro _ _ ⟨rfl,rfl⟩))
 clear c1 c2 n1 n2
 have HK:Hid (a<2^K∧b<2^K):=⟨ha,hb⟩
 clear ha hb
 go_loopg [0,5] (200001:Nat) (fun G s0 s5 wx=>∃(z:Int) (r:Nat),s5=.int .i64 z∧-100000≤z∧z≤100000∧z+100001≤(G:Int)∧Below w.heap.size w wx∧BigIs wx s0 r∧Hid (r%b=a%b∧r≤a∧r<b*2^(z+1).toNat))
 case atStart=>exact⟨(Na:Int)-Nb,a,rfl,by omega,by omega,by omega,Below.refl _ _,A,rfl,Nat.le_refl _,HS.out⟩
 case round =>
   clear HS A
   obtain⟨z,r,rfl,z1,z2,zG,HB,R,H⟩:=hrel
   obtain⟨o0,k0,c0,rfl, -⟩:=R.shape
   by_cases cz:z<0
   · have cz':¬(0:Int)≤z:=by omega
     have e:r=a%b:=by
       obtain⟨h1, -,h3⟩:=H.out
       rw [show (z+1).toNat=0 by omega,Nat.pow_zero,Nat.mul_one] at h3
       rw [←h1,Nat.mod_eq_of_lt h3]
     rw [e] at R
     clear H HK e
     go_wp2_with fail
     go_ret
     exact⟨⟨_,rfl,R⟩,HB⟩
   · have cz':(0:Int)≤z:=by omega
     obtain⟨t,rfl⟩:∃t:Nat,z=(t:Int):=⟨z.toNat,by omega⟩
     have h3:=H.out
     rw [show ((t:Int)+1).toNat=t+1 by omega] at h3
     have st:=rest_step h3.1 h3.2.2
     have hr:r≤a:=h3.2.1
     have BB:=B.keep HB
     have cl:=fun W (q:BigIs W (.slice bo k cb) b)=>left_w (.slice bo k cb) b t (t/32) (t%32) K (by omega) HK.out.2 (by omega) (by omega) (by omega) W q
     have q1:b*2^t<2^(K+t):=bits_room HK.out.2
     have q2:r<2^(K+t):=pow_up (Nat.lt_of_le_of_lt hr HK.out.1)
     have cc:=fun W v1 v2 (p1:BigIs W v1 (b*2^t)) (p2:BigIs W v2 r)=>cmp_w v1 v2 (b*2^t) r (K+t) (by omega) q1 q2 W p1 p2
     have cs:=fun W v1 v2 (h:b*2^t≤r) (p1:BigIs W v1 r) (p2:BigIs W v2 (b*2^t))=>less_w v1 v2 r (b*2^t) (K+t) (by omega) q2 h W p1 p2
     have ST:Hid ((b*2^t≤r→(r-b*2^t)%b=a%b∧r-b*2^t<b*2^t)∧(¬b*2^t≤r→r<b*2^t)):=st
     have H1:Hid (r%b=a%b∧r≤a):=⟨h3.1,hr⟩
     clear st h3 hr q1 q2 H HK
     have H2:Hid (b*2^((t:Int)-1+1).toNat=b*2^t):=by show _=_;rw [show ((t:Int)-1+1).toNat=t by omega]
     generalize b*2^t=d at *
     go_upto_region 4 with (go_at_call 111;(with_reducible refine (cl _ BB).mono ?_);rintro _ W1 ⟨⟨v1,rfl,D⟩,hb1⟩;obtain⟨o1,k1,c1,rfl, -⟩:=D.shape;replace R:=R.keep hb1;replace HB:=later HB hb1;clear hb1 BB)
     by_cases cd:d≤r
     · have cm:=cmpN_le cd
       have e1:=(ST.out.1 cd).1
       have e2:=(ST.out.1 cd).2
       have H4:Hid ((r-d)%b=a%b∧r-d≤a∧r-d<b*2^((t:Int)-1+1).toNat):=⟨e1,by have:=H1.out.2;omega,by rw [H2.out];exact e2⟩
       clear e1 e2 ST H1 H2
       generalize cmpN d r=y at *
       go_wp2_with (first
         | (go_at_call 62;(with_reducible refine (cc _ _ _ D R).mono ?_);rintro _ W2 ⟨rfl,hb1⟩;replace R:=R.keep hb1;replace D:=D.keep hb1;replace HB:=later HB hb1;clear hb1)
         | (go_at_call 112;(with_reducible refine (cs _ _ _ cd R D).mono ?_);rintro _ W3 ⟨⟨v3,rfl,E⟩,hb1⟩;replace HB:=later HB hb1;clear hb1))
       (go_roundg (t+100000)
        case measure=>omega
        case rel=>exact⟨(t:Int)-1,r-d,by go_num,by omega,by omega,by omega,HB,E,H4.out⟩)
     · have cm:=cmpN_nle cd
       have e2:=ST.out.2 cd
       have H4:Hid (r%b=a%b∧r≤a∧r<b*2^((t:Int)-1+1).toNat):=⟨H1.out.1,H1.out.2,by rw [H2.out];exact e2⟩
       clear e2 ST H1 H2
       generalize cmpN d r=y at *
       go_wp2_with (first
         | (go_at_call 62;(with_reducible refine (cc _ _ _ D R).mono ?_);rintro _ W2 ⟨rfl,hb1⟩;replace R:=R.keep hb1;replace HB:=later HB hb1;clear hb1))
       (go_roundg (t+100000)
        case measure=>omega
        case rel=>exact⟨(t:Int)-1,r,by go_num,by omega,by omega,by omega,HB,R,H4.out⟩)
theorem gcd_step (a b:Nat):Nat.gcd b (a%b)=Nat.gcd a b:=by rw [Nat.gcd_comm b,←Nat.gcd_rec,Nat.gcd_comm]
set_option maxHeartbeats 4000000 in
theorem common_w {ao bo:Option Addr} {l ca k cb:Nat} (a b K:Nat) (hK:K≤100000) (ha:a<2^K) (hb:b<2^K) (w:World) (A:BigIs w (.slice ao l ca) a) (B:BigIs w (.slice bo k cb) b) :
   Calls Tryd.prog 57 #[.slice ao l ca,.slice bo k cb] w fun r w'=>(∃v,r=.returned v∧BigIs w' v (Nat.gcd a b))∧Below w.heap.size w w':=by
 have HK:Hid (a<2^K∧b<2^K):=⟨ha,hb⟩
 clear ha hb
 go_enter Tryd.func57,Tryd.ntmps57
 go_upto_region 1 with fail
 go_loopg [0,1] b (fun G s0 s1 wx=>∃(m n:Nat),n≤G∧Below w.heap.size w wx∧BigIs wx s0 m∧BigIs wx s1 n∧Hid (Nat.gcd m n=Nat.gcd a b∧m<2^K∧n<2^K))
 case atStart=>exact⟨a,b,Nat.le_refl _,Below.refl _ _,A,B,rfl,HK.out.1,HK.out.2⟩
 case round =>
   clear A B HK
   obtain⟨m,n,hG,HB,M,N,H⟩:=hrel
   obtain⟨o0,k0,c0,rfl, -⟩:=M.shape
   obtain⟨o1,k1,c1,rfl,hk⟩:=N.shape
   by_cases cn:n=0
   · have z:k1=0:=hk.2 cn
     subst z
     have e:m=Nat.gcd a b:=by rw [←H.out.1,cn,Nat.gcd_zero_right]
     rw [e] at M
     clear e H hk
     go_wp2_with fail
     go_ret
     exact⟨⟨_,rfl,M⟩,HB⟩
   · have z:k1≠0:=fun q=>cn (hk.1 q)
     have z1:0<k1:=by omega
     have z2:(0:Int)<(k1:Int):=by omega
     have cr:=fun W (p:BigIs W (.slice o0 k0 c0) m) (q:BigIs W (.slice o1 k1 c1) n)=>rest_w m n K hK cn H.out.2.1 H.out.2.2 W p q
     have lt:=Nat.mod_lt m (show 0<n by omega)
     have H2:Hid (Nat.gcd n (m%n)=Nat.gcd a b∧n<2^K∧m%n<2^K):=⟨by rw [gcd_step];exact H.out.1,H.out.2.2,Nat.lt_trans lt H.out.2.2⟩
     clear H hk cn z
     generalize m%n=d at *
     go_wp2_with (go_at_call 109;(with_reducible refine (cr _ M N).mono ?_);rintro _ W1 ⟨⟨v1,rfl,D⟩,hb1⟩;replace N:=N.keep hb1;replace HB:=later HB hb1;clear hb1)
     (go_roundg d
      case measure=>omega
      case rel=>exact⟨n,d,Nat.le_refl _,HB,N,D,H2.out⟩)
theorem size_w (n:Int) (h1:-9223372036854775808≤n) (h2:n≤9223372036854775807) (w:World) :
   Calls Tryd.prog 63 #[.int .i64 n] w fun r w'=>(∃v,r=.returned v∧BigIs w' v n.natAbs)∧Below w.heap.size w w':=by
 have co:=fun W=>of_w n.natAbs (by omega) W
 have e1:n<0→IntKind.u64.wrap (-IntKind.u64.wrap n)=(n.natAbs:Int):=fun c=>by rw [IntKind.wrap_u64,IntKind.wrap_u64];omega
 have e2:¬n<0→IntKind.u64.wrap n=(n.natAbs:Int):=fun c=>by rw [IntKind.wrap_u64];omega
 generalize n.natAbs=m at *
 by_cases c:n<0
 · have e:=e1 c
   clear e1 e2
   go_enter Tryd.func63,Tryd.ntmps63
   go_wp2_with (go_at_call 26;(with_reducible refine (co _).mono ?_);rintro _ W1 ⟨⟨v1,rfl,D⟩,hb1⟩)
   go_ret
   exact⟨⟨_,rfl,D⟩,hb1⟩
 · have e:=e2 c
   clear e1 e2
   go_enter Tryd.func63,Tryd.ntmps63
   go_wp2_with (go_at_call 26;(with_reducible refine (co _).mono ?_);rintro _ W1 ⟨⟨v1,rfl,D⟩,hb1⟩)
   go_ret
   exact⟨⟨_,rfl,D⟩,hb1⟩
theorem one_w (w:World):Calls Tryd.prog 30 #[] w fun r w'=>(∃v,r=.returned v∧BigIs w' v 1)∧Below w.heap.size w w':=by
 have co:∀W,Calls Tryd.prog 26 #[.int .u64 1] W fun e w'=>(∃v',e=.returned v'∧BigIs w' v' 1)∧Below W.heap.size W w':=fun W=>of_w 1 (by omega) W
 go_enter Tryd.func30,Tryd.ntmps30
 go_wp2_with (go_at_call 26;(with_reducible refine (co _).mono ?_);rintro _ W1 ⟨⟨v1,rfl,D⟩,hb1⟩)
 go_ret
 exact⟨⟨_,rfl,D⟩,hb1⟩
structure Nm where
 g:Bool
 m:Nat
 e:Int
def NI (w:World) (v:Value) (a:Nm):Prop:=∃s,v=.agg #[.bool a.g,s,.int .i64 a.e]∧BigIs w s a.m
theorem NI.shape {w:World} {v:Value} {a:Nm} (h:NI w v a):∃ao l ca,v=.agg #[.bool a.g,.slice ao l ca,.int .i64 a.e]∧(l=0↔a.m=0)∧BigIs w (.slice ao l ca) a.m:=by
 obtain⟨s,h1,h2⟩:=h
 obtain⟨ao,l,ca,rfl,hl⟩:=h2.shape
 exact⟨ao,l,ca,h1,hl,h2⟩
def Rt2 (w:World) (b:Nat) (x y:Value):Prop:=w.cell? ⟨b,0,none⟩=some x∧w.cell? ⟨b,1,none⟩=some y∧w.frozen? ⟨b,0,none⟩=false∧w.frozen? ⟨b,1,none⟩=false∧b<w.heap.size
theorem Rt2.keep {w W:World} {b:Nat} {x y:Value} (h:Rt2 w b x y) (k:Below w.heap.size w W):Rt2 W b x y:=⟨keepsC k h.1 h.2.2.2.2,keepsC k h.2.1 h.2.2.2.2,keepsF k h.2.2.1 h.2.2.2.2,keepsF k h.2.2.2.1 h.2.2.2.2,Nat.lt_of_lt_of_le h.2.2.2.2 k.size⟩
theorem rat_new (w:World) (a b:Value) (T:TypeId):Rt2 (w.alloc (.cells #[a,b] T)) w.heap.size a b:=⟨by go_simp,by go_simp,by go_simp,by go_simp,by go_size⟩
theorem Rt2.c0 {w:World} {b:Nat} {x y:Value} (h:Rt2 w b x y):w.cell? ⟨b,0,none⟩=some x:=h.1
theorem Rt2.c1 {w:World} {b:Nat} {x y:Value} (h:Rt2 w b x y):w.cell? ⟨b,1,none⟩=some y:=h.2.1
def rightR (N D:Int):Bool:=decide (1≤D)&&(decide (N≠-9223372036854775808)&&decide (Nat.gcd N.natAbs D.natAbs=1))
def I64 (n:Int):Prop:=-9223372036854775808≤n∧n≤9223372036854775807
theorem I64.lt {n:Int} (h:I64 n):n.natAbs<2^64:=by
 obtain⟨h1,h2⟩:=h
 omega
theorem cmpN_one (g:Nat):(cmpN g 1==0)=decide (g=1):=by
 unfold cmpN
 by_cases c:g=1
 · subst c;rfl
 · rw [decide_eq_false c]
   split
   · rfl
   · split
     · rfl
     · omega
set_option maxHeartbeats 4000000 in
theorem right11_w (N D:Int) (hN:I64 N) (hD:I64 D) (w:World) :
   Calls Tryd.prog 33 #[.agg #[.int .i64 N,.int .i64 D]] w fun r w'=>r=.returned (.bool (rightR N D))∧Below w.heap.size w w':=by
 have X:=rat_new w (.int .i64 N) (.int .i64 D) 23
 have HB:Below w.heap.size w (w.alloc (.cells #[.int .i64 N,.int .i64 D] 23)):=by go_grown
 obtain⟨x0,x1,x2,x3,x4⟩:=id X
 by_cases c1:1≤D
 · by_cases c2:N=-9223372036854775808
   · have e:rightR N D=false:=by unfold rightR;rw [decide_eq_false (show ¬N≠-9223372036854775808 from fun q=>q c2)];simp
     rw [e]
     clear e
     subst c2
     go_enter Tryd.func33,Tryd.ntmps33
     go_upto_region 1 with fail
     generalize (w.alloc (.cells #[.int .i64 (-9223372036854775808),.int .i64 D] 23))=V1 at *
     go_quiet (fail)
     go_wp2_with fail
     go_ret
     exact⟨by simp,Go.below_drewN HB _⟩
   · have cs1:=fun W=>size_w N hN.1 hN.2 W
     have cs2:=fun W=>size_w D hD.1 hD.2 W
     have l1:=hN.lt
     have l2:=hD.lt
     obtain⟨K,hK⟩:∃K:Nat,K=64:=⟨_,rfl⟩
     rw [←hK] at l1 l2
     have e:rightR N D=(cmpN (Nat.gcd N.natAbs D.natAbs) 1==0):=by unfold rightR;rw [cmpN_one,decide_eq_true c1,decide_eq_true (show N≠-9223372036854775808 from c2)];simp
     rw [e]
     have cg:=fun W o1 k1 c1 o2 k2 c2 (p:BigIs W (.slice o1 k1 c1) N.natAbs) (q:BigIs W (.slice o2 k2 c2) D.natAbs)=>common_w N.natAbs D.natAbs K (by omega) l1 l2 W p q
     have hg:Nat.gcd N.natAbs D.natAbs<2^K:=Nat.lt_of_le_of_lt (Nat.gcd_le_right _ (by omega)) l2
     have cc:=fun W v1 v2 (p:BigIs W v1 (Nat.gcd N.natAbs D.natAbs)) (q:BigIs W v2 1)=>cmp_w v1 v2 (Nat.gcd N.natAbs D.natAbs) 1 K (by omega) hg (Nat.lt_of_lt_of_le (show 1<2^1 by decide) (Nat.pow_le_pow_right (by omega) (by omega))) W p q
     have c11:=one_w
     have d2:(N != -9223372036854775808)=true:=by simpa using c2
     clear e l1 l2 hg hK hN hD c2
     generalize N.natAbs=n at *
     generalize D.natAbs=d at *
     generalize cmpN (Nat.gcd n d) 1=y at *
     generalize Nat.gcd n d=g at *
     go_enter Tryd.func33,Tryd.ntmps33
     go_upto_region 1 with fail
     generalize (w.alloc (.cells #[.int .i64 N,.int .i64 D] 23))=V1 at *
     have HD:Below V1.heap.size V1 V1.drew:=(Below.refl _ _).drew
     replace X:=X.keep HD
     replace HB:=later HB HD
     clear HD x0 x1 x2 x3 x4
     go_region_held3 (fun w'=>w'.cell? ⟨w.heap.size,0,none⟩=some (.int .i64 N)∧w'.cell? ⟨w.heap.size,1,none⟩=some (.int .i64 D)) (first | with_reducible exact⟨X.c0,X.c1⟩ | go_keep)
       (first
         | (go_at_call_of 63 (Value.int .i64 N);(with_reducible refine (cs1 _).mono ?_);rintro _ W1 ⟨⟨v1,rfl,A⟩,hb1⟩;obtain⟨o1,k1,u1,rfl, -⟩:=A.shape;replace X:=X.keep hb1;replace HB:=later HB hb1;clear hb1)
         | (go_at_call_of 63 (Value.int .i64 D);(with_reducible refine (cs2 _).mono ?_);rintro _ W2 ⟨⟨v2,rfl,B⟩,hb1⟩;obtain⟨o2,k2,u2,rfl, -⟩:=B.shape;replace A:=A.keep hb1;replace X:=X.keep hb1;replace HB:=later HB hb1;clear hb1)
         | (go_at_call 57;(with_reducible refine (cg _ _ _ _ _ _ _ A B).mono ?_);rintro _ W3 ⟨⟨v3,rfl,G⟩,hb1⟩;obtain⟨o3,k3,u3,rfl, -⟩:=G.shape;replace X:=X.keep hb1;replace HB:=later HB hb1;clear hb1)
         | (go_at_call 30;(with_reducible refine (c11 _).mono ?_);rintro _ W4 ⟨⟨v4,rfl,O⟩,hb1⟩;obtain⟨o4,k4,u4,rfl, -⟩:=O.shape;replace G:=G.keep hb1;replace X:=X.keep hb1;replace HB:=later HB hb1;clear hb1)
         | (go_at_call 62;(with_reducible refine (cc _ _ _ G O).mono ?_);rintro _ W5 ⟨rfl,hb1⟩;replace X:=X.keep hb1;replace HB:=later HB hb1;clear hb1))
     all_goals
       go_wp2_with fail
       go_ret
       exact⟨by simp,HB⟩
 · have e:rightR N D=false:=by unfold rightR;rw [decide_eq_false c1];rfl
   rw [e]
   have d1:decide (1≤D)=false:=decide_eq_false c1
   clear e
   go_enter Tryd.func33,Tryd.ntmps33
   go_upto_region 1 with fail
   generalize (w.alloc (.cells #[.int .i64 N,.int .i64 D] 23))=V1 at *
   go_quiet (fail)
   go_wp2_with fail
   go_ret
   exact⟨by simp,Go.below_drewN HB _⟩
def numR (n:Int):Nm:=⟨decide (n<0),n.natAbs,0⟩
set_option maxHeartbeats 4000000 in
theorem num11_w (n:Int) (hn:I64 n) (w:World) :
   Calls Tryd.prog 41 #[.int .i64 n] w fun r w'=>(∃v,r=.returned v∧NI w' v (numR n))∧Below w.heap.size w w':=by
 have R:Has3 (w.alloc (.cells #[.bool false,.slice none 0 0,.int .i64 0] 76)) w.heap.size (.bool false) (.slice none 0 0) (.int .i64 0):=⟨by go_simp,by go_simp,by go_simp,by go_simp,by go_simp,by go_simp,by go_size⟩
 have B:=Boxed.new w #[.bool false,.slice none 0 0,.int .i64 0]
 have HB:Below w.heap.size w (w.alloc (.cells #[.bool false,.slice none 0 0,.int .i64 0] 76)):=by go_grown
 have cs:=fun W=>size_w n hn.1 hn.2 W
 unfold numR
 generalize n.natAbs=m at *
 clear hn
 go_enter Tryd.func41,Tryd.ntmps41
 go_wp2_with (go_at_call 63;(with_reducible refine (cs _).mono ?_);rintro _ W1 ⟨⟨v1,rfl,A⟩,hb1⟩;obtain⟨o1,k1,u1,rfl, -⟩:=A.shape;replace R:=R.keep hb1;replace B:=B.keep hb1;replace HB:=later HB hb1;clear hb1;obtain⟨r0,r1,r2,r3,r4,r5,r6⟩:=id R)
 refine bodyPost_ret (v:=.agg #[.bool (decide (n<0)),.slice o1 k1 u1,.int .i64 0]) (by simp [results,Tryd.results41,go_sem, *]) rfl ⟨⟨_,rfl,.slice o1 k1 u1,rfl, ?_⟩, ?_⟩
 · repeat' (first | (with_reducible exact A) | (with_reducible exact B) | (with_reducible refine BigIs.put ?_ ?_ _ _) | (with_reducible refine Boxed.set ?_ _ _ _))
 · repeat' (first | (with_reducible exact HB) | (with_reducible refine Below.setCell ?_ ?_ _) | go_size)
set_option maxHeartbeats 1000000 in
theorem rright_w11 (N D:Int) (hN:I64 N) (hD:I64 D) (w:World) :
   Calls Tryd.prog 31 #[.agg #[.int .i64 N,.int .i64 D]] w fun r w'=>r=.returned (.bool (rightR N D))∧Below w.heap.size w w':=by
 have X:=has2_new w (.int .i64 N) (.int .i64 D) 23
 have HB:Below w.heap.size w (w.alloc (.cells #[.int .i64 N,.int .i64 D] 23)):=by go_grown
 obtain⟨x0,x1,x2,x3,x4⟩:=id X
 by_cases c1:1≤D
 · by_cases c2:N=-9223372036854775808
   · have e:rightR N D=false:=by unfold rightR;rw [decide_eq_false (show ¬N≠-9223372036854775808 from fun q=>q c2)];simp
     rw [e]
     clear e
     subst c2
     go_enter Tryd.func31,Tryd.ntmps31
     go_upto_region 1 with fail
     generalize (w.alloc (.cells #[.int .i64 (-9223372036854775808),.int .i64 D] 23))=V1 at *
     go_quiet (fail)
     go_wp2_with fail
     go_ret
     exact⟨by simp,Go.below_drewN HB _⟩
   · have c2':-9223372036854775807≤N:=by have:=hN.1;omega
     have ca:=fun W=>ramount_w N hN.1 hN.2 W
     have cb:=fun W=>ramount_w D hD.1 hD.2 W
     have cg:=fun W=>rdivisor_w N.natAbs D.natAbs W
     have e:rightR N D=decide (Nat.gcd N.natAbs D.natAbs=1):=by unfold rightR;rw [decide_eq_true c1,decide_eq_true (show N≠-9223372036854775808 from c2)];simp
     rw [e]
     have e2:(((Nat.gcd N.natAbs D.natAbs:Nat):Int)==1)=decide (Nat.gcd N.natAbs D.natAbs=1):=by
       by_cases q:Nat.gcd N.natAbs D.natAbs=1
       · rw [decide_eq_true q]
         have:((Nat.gcd N.natAbs D.natAbs:Nat):Int)=1:=by omega
         rw [beq_iff_eq];exact this
       · rw [decide_eq_false q]
         have:¬((Nat.gcd N.natAbs D.natAbs:Nat):Int)=1:=by omega
         exact beq_eq_false_iff_ne.2 this
     have d1:decide (1≤D)=true:=decide_eq_true c1
     have d2:decide (-9223372036854775807≤N)=true:=decide_eq_true c2'
     clear e c2 hN hD
     generalize N.natAbs=n at *
     generalize D.natAbs=d at *
     generalize decide (Nat.gcd n d=1)=b at *
     generalize Nat.gcd n d=g at *
     go_enter Tryd.func31,Tryd.ntmps31
     go_upto_region 1 with fail
     generalize (w.alloc (.cells #[.int .i64 N,.int .i64 D] 23))=V1 at *
     have k0:=fun n:Behind V1=>n.cell X.1 X.2.2.2.2
     have k1:=fun n:Behind V1=>n.cell X.2.1 X.2.2.2.2
     clear x0 x1 x2 x3 x4
     refine region_behind (by kernel_rfl) (by kernel_rfl) ?_
     repeat (go_big_quiet_step (first
       | (go_at_call_of 52 (Value.int .i64 N);with_reducible refine Behind.same (ca _))
       | (go_at_call_of 52 (Value.int .i64 D);with_reducible refine Behind.same (cb _))
       | (go_at_call 60;with_reducible refine Behind.call (cg _))))
     refine wpQuiet_nil ?_
     rintro _ ⟨m',rfl⟩
     obtain⟨W,hb1⟩:=m'
     dsimp only
     go_wp2_with fail
     go_ret
     exact⟨rfl,later HB hb1⟩
 · have e:rightR N D=false:=by unfold rightR;rw [decide_eq_false c1];rfl
   rw [e]
   clear e
   go_enter Tryd.func31,Tryd.ntmps31
   go_upto_region 1 with fail
   generalize (w.alloc (.cells #[.int .i64 N,.int .i64 D] 23))=V1 at *
   go_quiet (fail)
   go_wp2_with fail
   go_ret
   exact⟨by simp,Go.below_drewN HB _⟩
def Pow10 (w:World):Prop:=Lib.TabBelow Tryd.prog w.heap.size w "internal/strconv.uint64pow10" .u64 Lib.pow10Tab
theorem Pow10.on {w W:World} (h:Pow10 w) (hb:Below w.heap.size w W):Pow10 W:=fun W' h'=>h W' (later hb h')
theorem below_grow (w:World) (q:Nat) (os:Array Obj):Below w.heap.size w (Sort.grow (w.drewN q) os) :=
 ⟨rfl,rfl,rfl,by simp [Sort.grow],fun i hi=>by
   show ((w.drewN q).heap++os)[i]?=_
   rw [Array.getElem?_append_left (by show i<w.heap.size;omega)]
   rfl⟩
theorem fmtInt_w (n:Int) (h:I64 n) (w:World) (T:Pow10 w) :
   Calls Tryd.prog 32 #[.int .i64 n,.int .i64 10] w fun r w'=>r=.returned (.string ⟨(Lib.itoa n).toArray⟩)∧Below w.heap.size w w' :=
 (Tryd.strconv_FormatInt_10 n h.1 h.2 w T.here).mono fun _ _ ⟨e,k,os,hw⟩=>⟨e,by rw [hw];exact below_grow w k os⟩
theorem itoa_w (n:Int) (h:I64 n) (w:World) (T:Pow10 w) :
   Calls Tryd.prog 34 #[.int .i64 n] w fun r w'=>r=.returned (.string ⟨(Lib.itoa n).toArray⟩)∧Below w.heap.size w w' :=
 (Tryd.strconv_Itoa n h.1 h.2 w T.here).mono fun _ _ ⟨e,k,os,hw⟩=>⟨e,by rw [hw];exact below_grow w k os⟩
def printB (N D:Int):ByteArray:=if rightR N D then (if D=1 then ⟨(Lib.itoa N).toArray⟩ else ⟨(Lib.itoa N).toArray⟩++⟨#[47]⟩++⟨(Lib.itoa D).toArray⟩) else ⟨#[]⟩
set_option maxHeartbeats 2000000 in
theorem pr_bad (N D:Int)
   (r1:∀W,Calls Tryd.prog 31 #[.agg #[.int .i64 N,.int .i64 D]] W fun r w'=>r=.returned (.bool false)∧Below W.heap.size W w') (w:World) :
   Calls Tryd.prog 10 #[.agg #[.int .i64 N,.int .i64 D]] w fun r w'=>r=.returned (.string ⟨#[]⟩)∧Below w.heap.size w w':=by
 have HB:Below w.heap.size w (w.alloc (.cells #[.int .i64 N,.int .i64 D] 23)):=by go_grown
 have X:=has2_new w (.int .i64 N) (.int .i64 D) 23
 go_enter Tryd.func10,Tryd.ntmps10
 go_upto_region 1 with fail
 generalize (w.alloc (.cells #[.int .i64 N,.int .i64 D] 23))=V1 at *
 obtain⟨p0,p1,p2,p3,p4⟩:=id X
 go_wp2_with (go_at_call 31;(with_reducible refine (r1 _).mono ?_);rintro _ W1 ⟨rfl,hb1⟩;replace X:=X.keep hb1;replace HB:=later HB hb1;clear hb1;obtain⟨q0,q1,q2,q3,q4⟩:=id X)
 go_ret
 exact⟨rfl,HB⟩
set_option maxHeartbeats 2000000 in
theorem pr_one (N:Int) (hN:I64 N)
   (r1:∀W,Calls Tryd.prog 31 #[.agg #[.int .i64 N,.int .i64 1]] W fun r w'=>r=.returned (.bool true)∧Below W.heap.size W w') (w:World) (T:Pow10 w) :
   Calls Tryd.prog 10 #[.agg #[.int .i64 N,.int .i64 1]] w fun r w'=>r=.returned (.string ⟨(Lib.itoa N).toArray⟩)∧Below w.heap.size w w':=by
 have HB:Below w.heap.size w (w.alloc (.cells #[.int .i64 N,.int .i64 1] 23)):=by go_grown
 have X:=has2_new w (.int .i64 N) (.int .i64 1) 23
 go_enter Tryd.func10,Tryd.ntmps10
 go_upto_region 1 with fail
 generalize (w.alloc (.cells #[.int .i64 N,.int .i64 1] 23))=V1 at *
 obtain⟨p0,p1,p2,p3,p4⟩:=id X
 go_wp2_with (first | (go_at_call 31;(with_reducible refine (r1 _).mono ?_);rintro _ W1 ⟨rfl,hb1⟩;replace X:=X.keep hb1;replace HB:=later HB hb1;clear hb1;obtain⟨q0,q1,q2,q3,q4⟩:=id X) | (go_at_call 32;(with_reducible refine (fmtInt_w N hN _ (T.on HB)).mono ?_);rintro _ W2 ⟨rfl,hb1⟩;replace X:=X.keep hb1;replace HB:=later HB hb1;clear hb1;obtain⟨r0,r1,r2,r3,r4⟩:=id X))
 go_ret
 exact⟨rfl,HB⟩
set_option maxHeartbeats 2000000 in
theorem pr_two (N D:Int) (hN:I64 N) (hD:I64 D) (hd:¬D=1)
   (r1:∀W,Calls Tryd.prog 31 #[.agg #[.int .i64 N,.int .i64 D]] W fun r w'=>r=.returned (.bool true)∧Below W.heap.size W w') (w:World) (T:Pow10 w) :
   Calls Tryd.prog 10 #[.agg #[.int .i64 N,.int .i64 D]] w fun r w'=>r=.returned (.string (⟨(Lib.itoa N).toArray⟩++⟨#[47]⟩++⟨(Lib.itoa D).toArray⟩))∧Below w.heap.size w w':=by
 have l1:=Lib.itoa_length_le N hN.1 hN.2
 have l2:=Lib.itoa_length_le D hD.1 hD.2
 have z1:(⟨(Lib.itoa N).toArray⟩:ByteArray).size=(Lib.itoa N).length:=by simp [ByteArray.size]
 have z2:(⟨(Lib.itoa D).toArray⟩:ByteArray).size=(Lib.itoa D).length:=by simp [ByteArray.size]
 have cN:=fun (W:World) (t:Pow10 W)=>fmtInt_w N hN W t
 have cD:=fun (W:World) (t:Pow10 W)=>fmtInt_w D hD W t
 generalize (⟨(Lib.itoa N).toArray⟩:ByteArray)=sN at *
 generalize (⟨(Lib.itoa D).toArray⟩:ByteArray)=sD at *
 have a1:∀W,(Op.stringOp .add sN ⟨#[47]⟩).run Tryd.prog W=.ok (.string (sN++⟨#[47]⟩)) W:=fun W=>run_string_add_sum W _ _ (by rw [z1];show _+1≤_;omega)
 have a2:∀W,(Op.stringOp .add (sN++⟨#[47]⟩) sD).run Tryd.prog W=.ok (.string (sN++⟨#[47]⟩++sD)) W:=fun W=>run_string_add_sum W _ _ (by rw [ByteArray.size_append,z1,z2];show _+1+_≤_;omega)
 have hd':(D==1)=false:=by simpa using hd
 have hd2:(D != 1)=true:=by simpa using hd
 clear l1 l2 z1 z2
 have HB:Below w.heap.size w (w.alloc (.cells #[.int .i64 N,.int .i64 D] 23)):=by go_grown
 have X:=has2_new w (.int .i64 N) (.int .i64 D) 23
 go_enter Tryd.func10,Tryd.ntmps10
 go_upto_region 1 with fail
 generalize (w.alloc (.cells #[.int .i64 N,.int .i64 D] 23))=V1 at *
 obtain⟨p0,p1,p2,p3,p4⟩:=id X
 go_upto_region 5 with (go_at_call 31;(with_reducible refine (r1 _).mono ?_);rintro _ W1 ⟨rfl,hb1⟩;replace X:=X.keep hb1;replace HB:=later HB hb1;clear hb1;obtain⟨q0,q1,q2,q3,q4⟩:=id X)
 clear p0 p1 p2 p3 p4 q0 q1 q2 q3 q4
 have k0:=fun n:Behind W1=>n.cell X.1 X.2.2.2.2
 have k1:=fun n:Behind W1=>n.cell X.2.1 X.2.2.2.2
 have T1:Pow10 W1:=T.on HB
 have dN:=fun n:Behind W1=>cN n.W (T1.on n.bel)
 have dD:=fun n:Behind W1=>cD n.W (T1.on n.bel)
 clear cN cD
 refine region_behind (by kernel_rfl) (by kernel_rfl) ?_
 repeat (go_big_quiet_step (first | (go_at_call 32;with_reducible refine Behind.call (dN _)) | (go_at_call 32;with_reducible refine Behind.call (dD _))))
 refine wpQuiet_nil ?_
 rintro _ ⟨m',rfl⟩
 obtain⟨V2,hb1⟩:=m'
 dsimp only
 clear k0 k1 dN dD
 replace HB:=later HB hb1
 clear hb1
 go_wp2_with fail
 go_ret
 exact⟨rfl,HB⟩
theorem print_w (N D:Int) (hN:I64 N) (hD:I64 D) (w:World) (T:Pow10 w) :
   Calls Tryd.prog 10 #[.agg #[.int .i64 N,.int .i64 D]] w fun r w'=>r=.returned (.string (printB N D))∧Below w.heap.size w w':=by
 have r1:=fun W=>rright_w11 N D hN hD W
 cases h:rightR N D
 · have e:printB N D=⟨#[]⟩:=by unfold printB;rw [h];rfl
   rw [e]
   rw [h] at r1
   exact pr_bad N D r1 w
 · rw [h] at r1
   by_cases c:D=1
   · subst c
     have e:printB N 1=⟨(Lib.itoa N).toArray⟩:=by unfold printB;rw [h];rfl
     rw [e]
     exact pr_one N hN r1 w T
   · have e:printB N D=⟨(Lib.itoa N).toArray⟩++⟨#[47]⟩++⟨(Lib.itoa D).toArray⟩:=by unfold printB;rw [h,if_pos rfl,if_neg c]
     rw [e]
     exact pr_two N D hN hD c r1 w T
set_option maxHeartbeats 2000000 in
theorem rp_bad (N D:Int)
   (r1:∀W,Calls Tryd.prog 33 #[.agg #[.int .i64 N,.int .i64 D]] W fun r w'=>r=.returned (.bool false)∧Below W.heap.size W w') (w:World) :
   Calls Tryd.prog 11 #[.agg #[.int .i64 N,.int .i64 D]] w fun r w'=>r=.returned (.string ⟨#[]⟩)∧Below w.heap.size w w':=by
 have HB:Below w.heap.size w (w.alloc (.cells #[.int .i64 N,.int .i64 D] 23)):=by go_grown
 have X:=has2_new w (.int .i64 N) (.int .i64 D) 23
 go_enter Tryd.func11,Tryd.ntmps11
 go_upto_region 1 with fail
 generalize (w.alloc (.cells #[.int .i64 N,.int .i64 D] 23))=V1 at *
 obtain⟨p0,p1,p2,p3,p4⟩:=id X
 go_wp2_with (go_at_call 33;(with_reducible refine (r1 _).mono ?_);rintro _ W1 ⟨rfl,hb1⟩;replace X:=X.keep hb1;replace HB:=later HB hb1;clear hb1;obtain⟨q0,q1,q2,q3,q4⟩:=id X)
 go_ret
 exact⟨rfl,HB⟩
set_option maxHeartbeats 2000000 in
theorem rp_one (N:Int) (hN:I64 N)
   (r1:∀W,Calls Tryd.prog 33 #[.agg #[.int .i64 N,.int .i64 1]] W fun r w'=>r=.returned (.bool true)∧Below W.heap.size W w') (w:World) (T:Pow10 w) :
   Calls Tryd.prog 11 #[.agg #[.int .i64 N,.int .i64 1]] w fun r w'=>r=.returned (.string ⟨(Lib.itoa N).toArray⟩)∧Below w.heap.size w w':=by
 have HB:Below w.heap.size w (w.alloc (.cells #[.int .i64 N,.int .i64 1] 23)):=by go_grown
 have X:=has2_new w (.int .i64 N) (.int .i64 1) 23
 go_enter Tryd.func11,Tryd.ntmps11
 go_upto_region 1 with fail
 generalize (w.alloc (.cells #[.int .i64 N,.int .i64 1] 23))=V1 at *
 obtain⟨p0,p1,p2,p3,p4⟩:=id X
 go_wp2_with (first | (go_at_call 33;(with_reducible refine (r1 _).mono ?_);rintro _ W1 ⟨rfl,hb1⟩;replace X:=X.keep hb1;replace HB:=later HB hb1;clear hb1;obtain⟨q0,q1,q2,q3,q4⟩:=id X) | (go_at_call 34;(with_reducible refine (itoa_w N hN _ (T.on HB)).mono ?_);rintro _ W2 ⟨rfl,hb1⟩;replace X:=X.keep hb1;replace HB:=later HB hb1;clear hb1;obtain⟨r0,r1,r2,r3,r4⟩:=id X))
 go_ret
 exact⟨rfl,HB⟩
set_option maxHeartbeats 2000000 in
theorem rp_two (N D:Int) (hN:I64 N) (hD:I64 D) (hd:¬D=1)
   (r1:∀W,Calls Tryd.prog 33 #[.agg #[.int .i64 N,.int .i64 D]] W fun r w'=>r=.returned (.bool true)∧Below W.heap.size W w') (w:World) (T:Pow10 w) :
   Calls Tryd.prog 11 #[.agg #[.int .i64 N,.int .i64 D]] w fun r w'=>r=.returned (.string (⟨(Lib.itoa N).toArray⟩++⟨#[47]⟩++⟨(Lib.itoa D).toArray⟩))∧Below w.heap.size w w':=by
 have l1:=Lib.itoa_length_le N hN.1 hN.2
 have l2:=Lib.itoa_length_le D hD.1 hD.2
 have z1:(⟨(Lib.itoa N).toArray⟩:ByteArray).size=(Lib.itoa N).length:=by simp [ByteArray.size]
 have z2:(⟨(Lib.itoa D).toArray⟩:ByteArray).size=(Lib.itoa D).length:=by simp [ByteArray.size]
 have cN:=fun (W:World) (t:Pow10 W)=>itoa_w N hN W t
 have cD:=fun (W:World) (t:Pow10 W)=>itoa_w D hD W t
 generalize (⟨(Lib.itoa N).toArray⟩:ByteArray)=sN at *
 generalize (⟨(Lib.itoa D).toArray⟩:ByteArray)=sD at *
 have a1:∀W,(Op.stringOp .add sN ⟨#[47]⟩).run Tryd.prog W=.ok (.string (sN++⟨#[47]⟩)) W:=fun W=>run_string_add_sum W _ _ (by rw [z1];show _+1≤_;omega)
 have a2:∀W,(Op.stringOp .add (sN++⟨#[47]⟩) sD).run Tryd.prog W=.ok (.string (sN++⟨#[47]⟩++sD)) W:=fun W=>run_string_add_sum W _ _ (by rw [ByteArray.size_append,z1,z2];show _+1+_≤_;omega)
 have hd':(D==1)=false:=by simpa using hd
 have hd2:(D != 1)=true:=by simpa using hd
 clear l1 l2 z1 z2
 have HB:Below w.heap.size w (w.alloc (.cells #[.int .i64 N,.int .i64 D] 23)):=by go_grown
 have X:=has2_new w (.int .i64 N) (.int .i64 D) 23
 go_enter Tryd.func11,Tryd.ntmps11
 go_upto_region 1 with fail
 generalize (w.alloc (.cells #[.int .i64 N,.int .i64 D] 23))=V1 at *
 obtain⟨p0,p1,p2,p3,p4⟩:=id X
 go_wp2_with (first | (go_at_call 33;(with_reducible refine (r1 _).mono ?_);rintro _ W1 ⟨rfl,hb1⟩;replace X:=X.keep hb1;replace HB:=later HB hb1;clear hb1;obtain⟨q0,q1,q2,q3,q4⟩:=id X) | (go_at_call 34;(with_reducible refine (cN _ (T.on HB)).mono ?_);rintro _ W2 ⟨rfl,hb1⟩;replace X:=X.keep hb1;replace HB:=later HB hb1;clear hb1;obtain⟨r0,r1,r2,r3,r4⟩:=id X) | (go_at_call 34;(with_reducible refine (cD _ (T.on HB)).mono ?_);rintro _ W3 ⟨rfl,hb1⟩;replace X:=X.keep hb1;replace HB:=later HB hb1;clear hb1;obtain⟨s0,s1,s2,s3,s4⟩:=id X))
 go_ret
 exact⟨rfl,HB⟩
theorem rpint_w (N D:Int) (hN:I64 N) (hD:I64 D) (w:World) (T:Pow10 w) :
   Calls Tryd.prog 11 #[.agg #[.int .i64 N,.int .i64 D]] w fun r w'=>r=.returned (.string (printB N D))∧Below w.heap.size w w':=by
 have r1:=fun W=>right11_w N D hN hD W
 cases h:rightR N D
 · have e:printB N D=⟨#[]⟩:=by unfold printB;rw [h];rfl
   rw [e]
   rw [h] at r1
   exact rp_bad N D r1 w
 · rw [h] at r1
   by_cases c:D=1
   · subst c
     have e:printB N 1=⟨(Lib.itoa N).toArray⟩:=by unfold printB;rw [h];rfl
     rw [e]
     exact rp_one N hN r1 w T
   · have e:printB N D=⟨(Lib.itoa N).toArray⟩++⟨#[47]⟩++⟨(Lib.itoa D).toArray⟩:=by unfold printB;rw [h,if_pos rfl,if_neg c]
     rw [e]
     exact rp_two N D hN hD c r1 w T
end Go.Proofs.YtgocelaghggpmaaDoor
