/- The walks of the reference's Split, Float and Int. -/
import Derived.Test.YtgocelaghggpmaaDoorKt15
import Derived.Test.YtgocelaghggpmaaDoorKt30
import Derived.Test.YtgocelaghggpmaaDoorKt06
namespace Go.Proofs.YtgocelaghggpmaaDoor
open Go.ChangeShapes Go.WideShapes Go.ChangeAt Go.RowKit
set_option maxHeartbeats 1000000 in
theorem rsplit_infn (x a:Nat) (ci:∀w,Calls Tryd.prog 145 #[.float .f64 x] w fun e w'=>e=.returned (.int .i64 (-(a:Int)))∧w=w')
   (h1:9218868437227405311<(a:Int)) (h2:(a:Int)≤9223372036854775807) (w:World) :
   Calls Tryd.prog 126 #[.float .f64 x] w fun r w'=>r=.returned (.tuple #[.agg #[.bool false,.int .u64 0,.int .i64 0],.bool false])∧Below w.heap.size w w':=by
 go_enter Tryd.func126,Tryd.ntmps126
 go_wp2_with (go_at_call 145;refine (ci _).mono ?_;rintro _ _ ⟨rfl,rfl⟩)
 refine bodyPost_ret (v:=.tuple #[.agg #[.bool false,.int .u64 0,.int .i64 0],.bool false]) (by simp [results,Tryd.results126,go_sem]) rfl ⟨rfl,by go_grown⟩
set_option maxHeartbeats 1000000 in
theorem rsplit_subn (x a m:Nat) (ci:∀w,Calls Tryd.prog 145 #[.float .f64 x] w fun e w'=>e=.returned (.int .i64 (-(a:Int)))∧w=w')
   (h0:0<(a:Int)) (h1:(a:Int)≤9218868437227405311) (e0:((a:Int)==0)=false) (e1:(a:Int)%4503599627370496=(m:Int)) (e2:(a:Int)/4503599627370496=0) (w:World) :
   Calls Tryd.prog 126 #[.float .f64 x] w fun r w'=>r=.returned (.tuple #[.agg #[.bool true,.int .u64 (m:Int),.int .i64 (-1074)],.bool true])∧Below w.heap.size w w':=by
 go_enter Tryd.func126,Tryd.ntmps126
 go_wp2_with (go_at_call 145;refine (ci _).mono ?_;rintro _ _ ⟨rfl,rfl⟩)
 refine bodyPost_ret (v:=.tuple #[.agg #[.bool true,.int .u64 (m:Int),.int .i64 (-1074)],.bool true]) (by simp [results,Tryd.results126,go_sem]) rfl ⟨rfl,by go_grown⟩
set_option maxHeartbeats 1000000 in
theorem rsplit_norn (x a m ex:Nat) (ci:∀w,Calls Tryd.prog 145 #[.float .f64 x] w fun e w'=>e=.returned (.int .i64 (-(a:Int)))∧w=w')
   (h0:0<(a:Int)) (h1:(a:Int)≤9218868437227405311) (e0:((a:Int)==0)=false) (e1:(a:Int)%4503599627370496=(m:Int)) (e2:(a:Int)/4503599627370496=(ex:Int)) (e3:((ex:Int)==0)=false) (M:Nat) (E:Int) (e4:IntKind.u64.wrap ((m:Int)+4503599627370496)=(M:Int)) (e5:IntKind.i64.wrap ((ex:Int)-1075)=E) (e6:IntKind.i64.wrap (ex:Int)=(ex:Int)) (w:World) :
   Calls Tryd.prog 126 #[.float .f64 x] w fun r w'=>r=.returned (.tuple #[.agg #[.bool true,.int .u64 (M:Int),.int .i64 E],.bool true])∧Below w.heap.size w w':=by
 go_enter Tryd.func126,Tryd.ntmps126
 go_wp2_with (go_at_call 145;refine (ci _).mono ?_;rintro _ _ ⟨rfl,rfl⟩)
 refine bodyPost_ret (v:=.tuple #[.agg #[.bool true,.int .u64 (M:Int),.int .i64 E],.bool true]) (by simp [results,Tryd.results126,go_sem]) rfl ⟨rfl,by go_grown⟩
set_option maxHeartbeats 1000000 in
theorem rsplit_subp (x a m:Nat) (ci:∀w,Calls Tryd.prog 145 #[.float .f64 x] w fun e w'=>e=.returned (.int .i64 (a:Int))∧w=w')
   (h0:0<(a:Int)) (h1:(a:Int)≤9218868437227405311) (e0:((a:Int)==0)=false) (e1:(a:Int)%4503599627370496=(m:Int)) (e2:(a:Int)/4503599627370496=0) (w:World) :
   Calls Tryd.prog 126 #[.float .f64 x] w fun r w'=>r=.returned (.tuple #[.agg #[.bool false,.int .u64 (m:Int),.int .i64 (-1074)],.bool true])∧Below w.heap.size w w':=by
 go_enter Tryd.func126,Tryd.ntmps126
 go_wp2_with (go_at_call 145;refine (ci _).mono ?_;rintro _ _ ⟨rfl,rfl⟩)
 refine bodyPost_ret (v:=.tuple #[.agg #[.bool false,.int .u64 (m:Int),.int .i64 (-1074)],.bool true]) (by simp [results,Tryd.results126,go_sem]) rfl ⟨rfl,by go_grown⟩
set_option maxHeartbeats 1000000 in
theorem rsplit_norp (x a m ex:Nat) (ci:∀w,Calls Tryd.prog 145 #[.float .f64 x] w fun e w'=>e=.returned (.int .i64 (a:Int))∧w=w')
   (h0:0<(a:Int)) (h1:(a:Int)≤9218868437227405311) (e0:((a:Int)==0)=false) (e1:(a:Int)%4503599627370496=(m:Int)) (e2:(a:Int)/4503599627370496=(ex:Int)) (e3:((ex:Int)==0)=false) (M:Nat) (E:Int) (e4:IntKind.u64.wrap ((m:Int)+4503599627370496)=(M:Int)) (e5:IntKind.i64.wrap ((ex:Int)-1075)=E) (e6:IntKind.i64.wrap (ex:Int)=(ex:Int)) (w:World) :
   Calls Tryd.prog 126 #[.float .f64 x] w fun r w'=>r=.returned (.tuple #[.agg #[.bool false,.int .u64 (M:Int),.int .i64 E],.bool true])∧Below w.heap.size w w':=by
 go_enter Tryd.func126,Tryd.ntmps126
 go_wp2_with (go_at_call 145;refine (ci _).mono ?_;rintro _ _ ⟨rfl,rfl⟩)
 refine bodyPost_ret (v:=.tuple #[.agg #[.bool false,.int .u64 (M:Int),.int .i64 E],.bool true]) (by simp [results,Tryd.results126,go_sem]) rfl ⟨rfl,by go_grown⟩
set_option maxHeartbeats 1000000 in
theorem rsplit_zero (x:Nat) (ci:∀w,Calls Tryd.prog 145 #[.float .f64 x] w fun e w'=>e=.returned (.int .i64 0)∧w=w')
    (w:World) :
   Calls Tryd.prog 126 #[.float .f64 x] w fun r w'=>r=.returned (.tuple #[.agg #[.bool false,.int .u64 0,.int .i64 0],.bool true])∧Below w.heap.size w w':=by
 go_enter Tryd.func126,Tryd.ntmps126
 go_wp2_with (go_at_call 145;refine (ci _).mono ?_;rintro _ _ ⟨rfl,rfl⟩)
 refine bodyPost_ret (v:=.tuple #[.agg #[.bool false,.int .u64 0,.int .i64 0],.bool true]) (by simp [results,Tryd.results126,go_sem]) rfl ⟨rfl,by go_grown⟩
theorem key_parts {x:Nat} (hx:x<18446744073709551616):x%9223372036854775808=0∧key x=0∨x%9223372036854775808≠0∧splitG x=true∧key x=-((x%9223372036854775808:Nat):Int)∨x%9223372036854775808≠0∧splitG x=false∧key x=((x%9223372036854775808:Nat):Int):=by
 unfold key splitG
 by_cases h0:x%9223372036854775808=0
 · left;refine⟨h0, ?_⟩;split <;> omega
 · right
   by_cases h1:x<9223372036854775808
   · right;refine⟨h0,by simp;omega, ?_⟩;rw [if_pos h1];omega
   · left;refine⟨h0,by simp;omega, ?_⟩;rw [if_neg h1];omega
theorem rsplit_w (x:Nat) (hx:x<18446744073709551616) (hf:finB x=true) (w:World) :
   Calls Tryd.prog 126 #[.float .f64 x] w fun r w'=>r=.returned (.tuple #[.agg #[.bool (splitG x),.int .u64 (splitM x),.int .i64 (splitE x)],.bool true])∧Below w.heap.size w w':=by
 have ci:=fun w=>index_w x hx w
 have hr:x%9223372036854775808<9218868437227405312:=by simpa [finB] using hf
 rcases key_parts hx with ⟨h0,hk⟩ | ⟨h0,hg,hk⟩ | ⟨h0,hg,hk⟩
 · have e1:splitG x=false:=by unfold splitG;simp;omega
   have e2:splitM x=0:=by unfold splitM;rw [if_pos (by omega),h0]
   have e3:splitE x=0:=by unfold splitE;rw [if_pos h0]
   rw [e1,e2,e3]
   rw [hk] at ci
   exact rsplit_zero x ci w
 all_goals
   rw [hk] at ci
   rw [hg]
   have em:x%4503599627370496=x%9223372036854775808%4503599627370496:=by omega
   unfold splitM splitE
   rw [if_neg h0,em]
   generalize x%9223372036854775808=a at *
   have e0:((a:Int)==0)=false:=by rw [beq_eq_false_iff_ne];omega
   by_cases hs:a<4503599627370496
   · rw [if_pos hs,show a/4503599627370496=0 by omega]
     first
       | exact rsplit_subn x a a ci (by omega) (by omega) e0 (by omega) (by omega) w
       | exact rsplit_subp x a a ci (by omega) (by omega) e0 (by omega) (by omega) w
   · rw [if_neg hs]
     have w1:IntKind.u64.wrap (((a%4503599627370496:Nat):Int)+4503599627370496)=((4503599627370496+a%4503599627370496:Nat):Int):=by rw [IntKind.wrap_u64];omega
     have w2:IntKind.i64.wrap (((a/4503599627370496:Nat):Int)-1075)=-1074+((a/4503599627370496-1:Nat):Int):=by rw [IntKind.wrap_i64];omega
     have w3:IntKind.i64.wrap ((a/4503599627370496:Nat):Int)=((a/4503599627370496:Nat):Int):=by rw [IntKind.wrap_i64];omega
     have e3:(((a/4503599627370496:Nat):Int)==0)=false:=by rw [beq_eq_false_iff_ne];omega
     first
       | exact rsplit_norn x a _ _ ci (by omega) (by omega) e0 (by omega) (by omega) e3 _ _ w1 w2 w3 w
       | exact rsplit_norp x a _ _ ci (by omega) (by omega) e0 (by omega) (by omega) e3 _ _ w1 w2 w3 w
set_option maxHeartbeats 1000000 in
theorem float_core (x m:Nat) (g:Bool) (e:Int) (cs:∀w,Calls Tryd.prog 126 #[.float .f64 x] w fun r w'=>r=.returned (.tuple #[.agg #[.bool g,.int .u64 m,.int .i64 e],.bool true])∧Below w.heap.size w w')
   (co:∀w,Calls Tryd.prog 26 #[.int .u64 m] w fun e w'=>(∃v',e=.returned v'∧BigIs w' v' m)∧Below w.heap.size w w') (w:World) :
   Calls Tryd.prog 81 #[.float .f64 x] w fun r w'=>(∃v,r=.returned (.agg #[.bool g,v,.int .i64 e])∧BigIs w' v m)∧Below w.heap.size w w':=by
 go_enter Tryd.func81,Tryd.ntmps81
 go_upto_region 2 with
  (go_at_call 126;refine (cs _).mono ?_;rintro _ w1 ⟨rfl,hb1⟩
   have R:Has3 w1 w.heap.size (.bool false) (.slice none 0 0) (.int .i64 0):=Has3.keep ⟨by go_simp,by go_simp,by go_simp,by go_simp,by go_simp,by go_simp,by go_size⟩ hb1
   have B:=(Boxed.new w #[.bool false,.slice none 0 0,.int .i64 0]).keep hb1
   have HB:Below w.heap.size w w1:=later (by go_grown) hb1)
 have hlt:=R.2.2.2.2.2.2
 have hz:Below w1.heap.size w1 (w1.alloc (.cells #[.bool g,.int .u64 m,.int .i64 e] 71)).drew:=by go_grown
 have X:Has3 (w1.alloc (.cells #[.bool g,.int .u64 m,.int .i64 e] 71)).drew w1.heap.size (.bool g) (.int .u64 m) (.int .i64 e):=⟨by go_simp,by go_simp,by go_simp,by go_simp,by go_simp,by go_simp,by go_size⟩
 replace R:=R.keep hz
 replace B:=B.keep hz
 replace HB:=later HB hz
 have ne1:w.heap.size≠w1.heap.size:=by omega
 go_region_held3 (fun w'=>w'.cell? ⟨w1.heap.size,0,none⟩=some (.bool g)∧w'.cell? ⟨w1.heap.size,1,none⟩=some (.int .u64 m)∧w'.cell? ⟨w1.heap.size,2,none⟩=some (.int .i64 e)) (first | exact⟨X.1,X.2.1,X.2.2.1⟩ | exact⟨(X.far ne1 _ _ _).1,(X.far ne1 _ _ _).2.1,(X.far ne1 _ _ _).2.2.1⟩ | go_keep)
   ((go_at_call 26;refine (co _).mono ?_;rintro _ w6 ⟨⟨v3,rfl,hv3⟩,hb6⟩
     obtain⟨o3,l3,p3,rfl, -⟩:=hv3.shape
     replace X:=X.keep hb6
     replace R:=R.keep hb6
     replace B:=B.keep hb6
     replace HB:=later HB hb6
     obtain⟨z0,z1,z2,z3,z4,z5,z6⟩:=R))
 all_goals
   go_wp2_with fail
   refine bodyPost_ret (v:=.agg #[.bool g,.slice o3 l3 p3,.int .i64 e]) (by simp [results,Tryd.results81,go_sem, *]) rfl ⟨⟨_,rfl, ?_⟩, ?_⟩
   all_goals repeat' (first | (with_reducible exact hv3) | (with_reducible exact HB) | (with_reducible exact B) | (with_reducible refine BigIs.put ?_ ?_ _ _) | (with_reducible refine Boxed.set ?_ _ _ _) | (with_reducible refine Below.setCell ?_ ?_ _) | go_size)
theorem float_z (x:Nat) (hx:x<18446744073709551616) (hf:finB x=true) (w:World) :
   Calls Tryd.prog 81 #[.float .f64 x] w fun r w'=>(∃v,r=.returned v∧NumZ (-1074) 971 53 w' v (V (key x)))∧Below w.heap.size w w':=by
 have hb:=splitE_bounds hf
 have hm:=splitM_lt x
 refine (float_core x (splitM x) (splitG x) (splitE x) (fun w=>rsplit_w x hx hf w) (fun w=>of_w (splitM x) (by omega) w) w).mono ?_
 rintro _ w' ⟨⟨v,rfl,hv⟩,hB⟩
 refine⟨⟨_,rfl,splitG x,v,splitM x,splitE x,rfl,hv,hm,hb.1,hb.2, ?_⟩,hB⟩
 rw [signed_val hx hf]
 unfold sgnd
 rw [show splitE x - -1074=splitE x+1074 by omega]
end Go.Proofs.YtgocelaghggpmaaDoor
