/- The walks of the reference's Split, Float and Int. The walks of the reference's Hull, Meet, Neg, ends, Add and Sub: they answer as the program's; IvalSums' walk. -/
import Derived.Test.YtgfppdboogldlaaGreatZs15
import Derived.Test.YtgfppdboogldlaaGreatZs07
import Derived.Test.YtgfppdboogldlaaGreatZs13
import Derived.Test.YtgfppdboogldlaaGreatZs05
namespace Go.Proofs.YtgfppdboogldlaaGreat
open Go.ChangeShapes Go.WideShapes Go.ChangeAt Go.RowKit
set_option maxHeartbeats 1000000 in
theorem rsplit_infn (x a:Nat) (ci:∀w,Calls Tryz.prog 47 #[.float .f64 x] w fun e w'=>e=.returned (.int .i64 (-(a:Int)))∧w=w')
   (h1:9218868437227405311<(a:Int)) (h2:(a:Int)≤9223372036854775807) (w:World) :
   Calls Tryz.prog 23 #[.float .f64 x] w fun r w'=>r=.returned (.tuple #[.agg #[.bool false,.int .u64 0,.int .i64 0],.bool false])∧Below w.heap.size w w':=by
 go_enter Tryz.func23,Tryz.ntmps23
 go_wp2_with (go_at_call 47;refine (ci _).mono ?_;rintro _ _ ⟨rfl,rfl⟩)
 refine bodyPost_ret (v:=.tuple #[.agg #[.bool false,.int .u64 0,.int .i64 0],.bool false]) (by simp [results,Tryz.results23,go_sem]) rfl ⟨rfl,by go_grown⟩
set_option maxHeartbeats 1000000 in
theorem rsplit_subn (x a m:Nat) (ci:∀w,Calls Tryz.prog 47 #[.float .f64 x] w fun e w'=>e=.returned (.int .i64 (-(a:Int)))∧w=w')
   (h0:0<(a:Int)) (h1:(a:Int)≤9218868437227405311) (e0:((a:Int)==0)=false) (e1:(a:Int)%4503599627370496=(m:Int)) (e2:(a:Int)/4503599627370496=0) (w:World) :
   Calls Tryz.prog 23 #[.float .f64 x] w fun r w'=>r=.returned (.tuple #[.agg #[.bool true,.int .u64 (m:Int),.int .i64 (-1074)],.bool true])∧Below w.heap.size w w':=by
 go_enter Tryz.func23,Tryz.ntmps23
 go_wp2_with (go_at_call 47;refine (ci _).mono ?_;rintro _ _ ⟨rfl,rfl⟩)
 refine bodyPost_ret (v:=.tuple #[.agg #[.bool true,.int .u64 (m:Int),.int .i64 (-1074)],.bool true]) (by simp [results,Tryz.results23,go_sem]) rfl ⟨rfl,by go_grown⟩
set_option maxHeartbeats 1000000 in
theorem rsplit_norn (x a m ex:Nat) (ci:∀w,Calls Tryz.prog 47 #[.float .f64 x] w fun e w'=>e=.returned (.int .i64 (-(a:Int)))∧w=w')
   (h0:0<(a:Int)) (h1:(a:Int)≤9218868437227405311) (e0:((a:Int)==0)=false) (e1:(a:Int)%4503599627370496=(m:Int)) (e2:(a:Int)/4503599627370496=(ex:Int)) (e3:((ex:Int)==0)=false) (M:Nat) (E:Int) (e4:IntKind.u64.wrap ((m:Int)+4503599627370496)=(M:Int)) (e5:IntKind.i64.wrap ((ex:Int)-1075)=E) (e6:IntKind.i64.wrap (ex:Int)=(ex:Int)) (w:World) :
   Calls Tryz.prog 23 #[.float .f64 x] w fun r w'=>r=.returned (.tuple #[.agg #[.bool true,.int .u64 (M:Int),.int .i64 E],.bool true])∧Below w.heap.size w w':=by
 go_enter Tryz.func23,Tryz.ntmps23
 go_wp2_with (go_at_call 47;refine (ci _).mono ?_;rintro _ _ ⟨rfl,rfl⟩)
 refine bodyPost_ret (v:=.tuple #[.agg #[.bool true,.int .u64 (M:Int),.int .i64 E],.bool true]) (by simp [results,Tryz.results23,go_sem]) rfl ⟨rfl,by go_grown⟩
set_option maxHeartbeats 1000000 in
theorem rsplit_subp (x a m:Nat) (ci:∀w,Calls Tryz.prog 47 #[.float .f64 x] w fun e w'=>e=.returned (.int .i64 (a:Int))∧w=w')
   (h0:0<(a:Int)) (h1:(a:Int)≤9218868437227405311) (e0:((a:Int)==0)=false) (e1:(a:Int)%4503599627370496=(m:Int)) (e2:(a:Int)/4503599627370496=0) (w:World) :
   Calls Tryz.prog 23 #[.float .f64 x] w fun r w'=>r=.returned (.tuple #[.agg #[.bool false,.int .u64 (m:Int),.int .i64 (-1074)],.bool true])∧Below w.heap.size w w':=by
 go_enter Tryz.func23,Tryz.ntmps23
 go_wp2_with (go_at_call 47;refine (ci _).mono ?_;rintro _ _ ⟨rfl,rfl⟩)
 refine bodyPost_ret (v:=.tuple #[.agg #[.bool false,.int .u64 (m:Int),.int .i64 (-1074)],.bool true]) (by simp [results,Tryz.results23,go_sem]) rfl ⟨rfl,by go_grown⟩
set_option maxHeartbeats 1000000 in
theorem rsplit_norp (x a m ex:Nat) (ci:∀w,Calls Tryz.prog 47 #[.float .f64 x] w fun e w'=>e=.returned (.int .i64 (a:Int))∧w=w')
   (h0:0<(a:Int)) (h1:(a:Int)≤9218868437227405311) (e0:((a:Int)==0)=false) (e1:(a:Int)%4503599627370496=(m:Int)) (e2:(a:Int)/4503599627370496=(ex:Int)) (e3:((ex:Int)==0)=false) (M:Nat) (E:Int) (e4:IntKind.u64.wrap ((m:Int)+4503599627370496)=(M:Int)) (e5:IntKind.i64.wrap ((ex:Int)-1075)=E) (e6:IntKind.i64.wrap (ex:Int)=(ex:Int)) (w:World) :
   Calls Tryz.prog 23 #[.float .f64 x] w fun r w'=>r=.returned (.tuple #[.agg #[.bool false,.int .u64 (M:Int),.int .i64 E],.bool true])∧Below w.heap.size w w':=by
 go_enter Tryz.func23,Tryz.ntmps23
 go_wp2_with (go_at_call 47;refine (ci _).mono ?_;rintro _ _ ⟨rfl,rfl⟩)
 refine bodyPost_ret (v:=.tuple #[.agg #[.bool false,.int .u64 (M:Int),.int .i64 E],.bool true]) (by simp [results,Tryz.results23,go_sem]) rfl ⟨rfl,by go_grown⟩
set_option maxHeartbeats 1000000 in
theorem rsplit_zero (x:Nat) (ci:∀w,Calls Tryz.prog 47 #[.float .f64 x] w fun e w'=>e=.returned (.int .i64 0)∧w=w')
    (w:World) :
   Calls Tryz.prog 23 #[.float .f64 x] w fun r w'=>r=.returned (.tuple #[.agg #[.bool false,.int .u64 0,.int .i64 0],.bool true])∧Below w.heap.size w w':=by
 go_enter Tryz.func23,Tryz.ntmps23
 go_wp2_with (go_at_call 47;refine (ci _).mono ?_;rintro _ _ ⟨rfl,rfl⟩)
 refine bodyPost_ret (v:=.tuple #[.agg #[.bool false,.int .u64 0,.int .i64 0],.bool true]) (by simp [results,Tryz.results23,go_sem]) rfl ⟨rfl,by go_grown⟩
theorem key_parts {x:Nat} (hx:x<18446744073709551616):x%9223372036854775808=0∧key x=0∨x%9223372036854775808≠0∧splitG x=true∧key x=-((x%9223372036854775808:Nat):Int)∨x%9223372036854775808≠0∧splitG x=false∧key x=((x%9223372036854775808:Nat):Int):=by
 unfold key splitG
 by_cases h0:x%9223372036854775808=0
 · left;refine⟨h0, ?_⟩;split <;> omega
 · right
   by_cases h1:x<9223372036854775808
   · right;refine⟨h0,by simp;omega, ?_⟩;rw [if_pos h1];omega
   · left;refine⟨h0,by simp;omega, ?_⟩;rw [if_neg h1];omega
theorem rsplit_w (x:Nat) (hx:x<18446744073709551616) (hf:finB x=true) (w:World) :
   Calls Tryz.prog 23 #[.float .f64 x] w fun r w'=>r=.returned (.tuple #[.agg #[.bool (splitG x),.int .u64 (splitM x),.int .i64 (splitE x)],.bool true])∧Below w.heap.size w w':=by
 have ci:=fun w=>index_w x hx w
 have hr:x%9223372036854775808<9218868437227405312:=by simpa [finB] using hf
 rcases key_parts hx with ⟨h0,hk⟩ | ⟨h0,hg,hk⟩ | ⟨h0,hg,hk⟩
 · have e1:splitG x=false:=by unfold splitG;simp;omega
   have e2:splitM x=0:=by unfold splitM;rw [if_pos (by omega),h0]
   have e3:splitE x=0:=by unfold splitE;rw [if_pos h0]
   rw [e1,e2,e3]
   rw [hk] at ci
   exact rsplit_zero x ci w
 all_goals
   rw [hk] at ci
   rw [hg]
   have em:x%4503599627370496=x%9223372036854775808%4503599627370496:=by omega
   unfold splitM splitE
   rw [if_neg h0,em]
   generalize x%9223372036854775808=a at *
   have e0:((a:Int)==0)=false:=by rw [beq_eq_false_iff_ne];omega
   by_cases hs:a<4503599627370496
   · rw [if_pos hs,show a/4503599627370496=0 by omega]
     first
       | exact rsplit_subn x a a ci (by omega) (by omega) e0 (by omega) (by omega) w
       | exact rsplit_subp x a a ci (by omega) (by omega) e0 (by omega) (by omega) w
   · rw [if_neg hs]
     have w1:IntKind.u64.wrap (((a%4503599627370496:Nat):Int)+4503599627370496)=((4503599627370496+a%4503599627370496:Nat):Int):=by rw [IntKind.wrap_u64];omega
     have w2:IntKind.i64.wrap (((a/4503599627370496:Nat):Int)-1075)=-1074+((a/4503599627370496-1:Nat):Int):=by rw [IntKind.wrap_i64];omega
     have w3:IntKind.i64.wrap ((a/4503599627370496:Nat):Int)=((a/4503599627370496:Nat):Int):=by rw [IntKind.wrap_i64];omega
     have e3:(((a/4503599627370496:Nat):Int)==0)=false:=by rw [beq_eq_false_iff_ne];omega
     first
       | exact rsplit_norn x a _ _ ci (by omega) (by omega) e0 (by omega) (by omega) e3 _ _ w1 w2 w3 w
       | exact rsplit_norp x a _ _ ci (by omega) (by omega) e0 (by omega) (by omega) e3 _ _ w1 w2 w3 w
set_option maxHeartbeats 1000000 in
theorem float_core (x m:Nat) (g:Bool) (e:Int) (cs:∀w,Calls Tryz.prog 23 #[.float .f64 x] w fun r w'=>r=.returned (.tuple #[.agg #[.bool g,.int .u64 m,.int .i64 e],.bool true])∧Below w.heap.size w w')
   (co:∀w,Calls Tryz.prog 24 #[.int .u64 m] w fun e w'=>(∃v',e=.returned v'∧BigIs w' v' m)∧Below w.heap.size w w') (w:World) :
   Calls Tryz.prog 11 #[.float .f64 x] w fun r w'=>(∃v,r=.returned (.agg #[.bool g,v,.int .i64 e])∧BigIs w' v m)∧Below w.heap.size w w':=by
 go_enter Tryz.func11,Tryz.ntmps11
 go_upto_region 2 with
  (go_at_call 23;refine (cs _).mono ?_;rintro _ w1 ⟨rfl,hb1⟩
   have R:Has3 w1 w.heap.size (.bool false) (.slice none 0 0) (.int .i64 0):=Has3.keep ⟨by go_simp,by go_simp,by go_simp,by go_simp,by go_simp,by go_simp,by go_size⟩ hb1
   have B:=(Boxed.new w #[.bool false,.slice none 0 0,.int .i64 0]).keep hb1
   have HB:Below w.heap.size w w1:=later (by go_grown) hb1)
 have hlt:=R.2.2.2.2.2.2
 have hz:Below w1.heap.size w1 (w1.alloc (.cells #[.bool g,.int .u64 m,.int .i64 e] 63)).drew:=by go_grown
 have X:Has3 (w1.alloc (.cells #[.bool g,.int .u64 m,.int .i64 e] 63)).drew w1.heap.size (.bool g) (.int .u64 m) (.int .i64 e):=⟨by go_simp,by go_simp,by go_simp,by go_simp,by go_simp,by go_simp,by go_size⟩
 replace R:=R.keep hz
 replace B:=B.keep hz
 replace HB:=later HB hz
 have ne1:w.heap.size≠w1.heap.size:=by omega
 go_region_held3 (fun w'=>w'.cell? ⟨w1.heap.size,0,none⟩=some (.bool g)∧w'.cell? ⟨w1.heap.size,1,none⟩=some (.int .u64 m)∧w'.cell? ⟨w1.heap.size,2,none⟩=some (.int .i64 e)) (first | exact⟨X.1,X.2.1,X.2.2.1⟩ | exact⟨(X.far ne1 _ _ _).1,(X.far ne1 _ _ _).2.1,(X.far ne1 _ _ _).2.2.1⟩ | go_keep)
   ((go_at_call 24;refine (co _).mono ?_;rintro _ w6 ⟨⟨v3,rfl,hv3⟩,hb6⟩
     obtain⟨o3,l3,p3,rfl, -⟩:=hv3.shape
     replace X:=X.keep hb6
     replace R:=R.keep hb6
     replace B:=B.keep hb6
     replace HB:=later HB hb6
     obtain⟨z0,z1,z2,z3,z4,z5,z6⟩:=R))
 all_goals
   go_wp2_with fail
   refine bodyPost_ret (v:=.agg #[.bool g,.slice o3 l3 p3,.int .i64 e]) (by simp [results,Tryz.results11,go_sem, *]) rfl ⟨⟨_,rfl, ?_⟩, ?_⟩
   all_goals repeat' (first | (with_reducible exact hv3) | (with_reducible exact HB) | (with_reducible exact B) | (with_reducible refine BigIs.put ?_ ?_ _ _) | (with_reducible refine Boxed.set ?_ _ _ _) | (with_reducible refine Below.setCell ?_ ?_ _) | go_size)
theorem float_z (x:Nat) (hx:x<18446744073709551616) (hf:finB x=true) (w:World) :
   Calls Tryz.prog 11 #[.float .f64 x] w fun r w'=>(∃v,r=.returned v∧NumZ (-1074) 971 53 w' v (V (key x)))∧Below w.heap.size w w':=by
 have hb:=splitE_bounds hf
 have hm:=splitM_lt x
 refine (float_core x (splitM x) (splitG x) (splitE x) (fun w=>rsplit_w x hx hf w) (fun w=>of_w (splitM x) (by omega) w) w).mono ?_
 rintro _ w' ⟨⟨v,rfl,hv⟩,hB⟩
 refine⟨⟨_,rfl,splitG x,v,splitM x,splitE x,rfl,hv,hm,hb.1,hb.2, ?_⟩,hB⟩
 rw [signed_val hx hf]
 unfold sgnd
 rw [show splitE x - -1074=splitE x+1074 by omega]
set_option maxHeartbeats 1000000 in
theorem int_z (w:World) :
   Calls Tryz.prog 16 #[.int .i64 1] w fun r w'=>(∃v,r=.returned v∧NumZ 0 0 1 w' v 1)∧Below w.heap.size w w':=by
 have co:=fun w=>of_w 1 (by omega) w
 go_enter Tryz.func16,Tryz.ntmps16
 go_wp2_with
  (go_at_call 24;refine (co _).mono ?_;rintro _ w6 ⟨⟨v3,rfl,hv3⟩,hb6⟩
   obtain⟨o3,l3,p3,rfl, -⟩:=hv3.shape
   have R:Has3 w6 w.heap.size (.bool false) (.slice none 0 0) (.int .i64 0):=Has3.keep ⟨by go_simp,by go_simp,by go_simp,by go_simp,by go_simp,by go_simp,by go_size⟩ hb6
   have B:=(Boxed.new w #[.bool false,.slice none 0 0,.int .i64 0]).keep hb6
   have HB:Below w.heap.size w w6:=later (by go_grown) hb6
   obtain⟨z0,z1,z2,z3,z4,z5,z6⟩:=R)
 refine bodyPost_ret (v:=.agg #[.bool false,.slice o3 l3 p3,.int .i64 0]) (by simp [results,Tryz.results16,go_sem, *]) rfl ⟨⟨_,rfl,false,_,1,0,rfl, ?_,by omega,by omega,by omega,rfl⟩, ?_⟩
 all_goals repeat' (first | (with_reducible exact hv3) | (with_reducible exact HB) | (with_reducible exact B) | (with_reducible refine BigIs.put ?_ ?_ _ _) | (with_reducible refine Boxed.set ?_ _ _ _) | (with_reducible refine Below.setCell ?_ ?_ _) | go_size)
def addP (xl xh yl yh:Nat):Nat×Nat:=if hsB xl xh&&hsB yl yh then ((addR xl yl (-1)).getD 0,(addR xh yh 1).getD 0) else (infI 1,infI (-1))
theorem addP_lt {xl xh yl yh:Nat} (h1:xl<18446744073709551616) (h2:xh<18446744073709551616) (h3:yl<18446744073709551616) (h4:yh<18446744073709551616):(addP xl xh yl yh).1<18446744073709551616∧(addP xl xh yl yh).2<18446744073709551616:=by
 unfold addP
 have e1:=infI_lt 1
 have e2:=infI_lt (-1)
 cases hx:hsB xl xh <;> cases hy:hsB yl yh
 · rw [if_neg (by simp)];exact⟨e1,e2⟩
 · rw [if_neg (by simp)];exact⟨e1,e2⟩
 · rw [if_neg (by simp)];exact⟨e1,e2⟩
 · rw [if_pos (by simp)]
   obtain⟨l,u,e1,e2, -,e3,e4⟩:=add_some h1 h2 h3 h4 (hs_iff.1 hx) (hs_iff.1 hy)
   rw [e1,e2]
   exact⟨e3,e4⟩
theorem Add_w (xl xh yl yh:Nat) (h1:xl<18446744073709551616) (h2:xh<18446744073709551616) (h3:yl<18446744073709551616) (h4:yh<18446744073709551616) (w:World) :
   Calls Tryz.prog 141 #[.agg #[.float .f64 xl,.float .f64 xh],.agg #[.float .f64 yl,.float .f64 yh]] w fun e w'=>e=.returned (.agg #[.float .f64 (addP xl xh yl yh).1,.float .f64 (addP xl xh yl yh).2])∧Below w.heap.size w w':=by
 unfold addP
 cases hs:hsB xl xh&&hsB yl yh
 · exact add_none xl xh yl yh h1 h2 h3 h4 hs w
 · obtain⟨hx,hy⟩:=Bool.and_eq_true_iff.1 hs
   obtain⟨l,u,e1,e2, -,e3,e4⟩:=add_some h1 h2 h3 h4 (hs_iff.1 hx) (hs_iff.1 hy)
   refine (add_i xl xh yl yh h1 h2 h3 h4 _ _ (fun w=>add_w xl yl (-1) h1 h3 w) (fun w=>add_w xh yh 1 h2 h4 w) hs w).mono ?_
   rintro _ _ ⟨⟨r1,r2,rfl,t1,t2⟩,hb⟩
   rw [e1] at t1
   rw [e2] at t2
   rw [e1,e2]
   obtain rfl:r1=l:=t1.2
   obtain rfl:r2=u:=t2.2
   exact⟨rfl,hb⟩
end Go.Proofs.YtgfppdboogldlaaGreat
