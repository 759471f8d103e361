/- A float times a power of two, rounded to a side; an interval so. The power of two above a float; the greatest one of a row. -/
import Derived.Test.YtfdomcnaaadedaaZs18
import Derived.Test.YtfdomcnaaadedaaZs21
import Derived.Test.YtfdomcnaaadedaaZs02
import Derived.Test.YtfdomcnaaadedaaZs03
import Derived.Test.YtfdomcnaaadedaaZs10
import Derived.Test.YtfdomcnaaadedaaZs12
namespace Go.Proofs.Ytfdomcnaaadedaa
open Go.ChangeShapes Go.WideShapes Go.ChangeAt Go.RowKit
def rpF (v:Nat) (e dir:Int):Nat:=if finB v then roundN (splitG v) (splitM v) (splitE v+e) dir else v
theorem rpF_lt {v:Nat} (hv:v<18446744073709551616) (e dir:Int):rpF v e dir<18446744073709551616:=by
 unfold rpF
 split
 · exact (roundN_facts _ _ _ _ (by have:=splitM_lt v;omega)).2.2
 · exact hv
set_option maxHeartbeats 1000000 in
theorem rp_w (v:Nat) (e dir:Int) (hv:v<18446744073709551616) (h1:-100000≤e) (h2:e≤100000) (w:World) :
   Calls Try.prog 63 #[.float .f64 v,.int .i64 e,.int .i64 dir] w fun x w'=>x=.returned (.float .f64 (rpF v e dir))∧Below w.heap.size w w':=by
 unfold rpF
 cases hf:finB v
 · have cs:=fun w=>split_not v hv hf w
   go_enter Try.func63,Try.ntmps63
   go_wp2_with (go_at_call 68;refine (cs _).mono ?_;rintro _ w1 ⟨rfl,hb1⟩)
   go_ret
   exact⟨rfl,below_alloc hb1 _⟩
 · have cs:=fun w=>split_w v hv hf w
   obtain⟨b1,b2⟩:=splitE_bounds hf
   have hm:=splitM_lt v
   have cr:=fun w=>round_w (splitG v) (splitM v) (splitE v+e) dir (by omega) w
   simp only [if_true]
   generalize splitG v=g at *
   generalize splitM v=m at *
   generalize splitE v=x at *
   generalize roundN g m (x+e) dir=r at *
   go_enter Try.func63,Try.ntmps63
   go_wp2_with (first
     | (go_at_call 68;refine (cs _).mono ?_;rintro _ w1 ⟨rfl,hb1⟩)
     | (go_at_call 69;refine (cr _).mono ?_;rintro _ w2 ⟨rfl,hb2⟩))
   go_ret
   refine⟨rfl,later ?_ hb2⟩
   repeat' (first | (with_reducible exact hb1) | (with_reducible refine Below.setCell ?_ ?_ _) | (with_reducible refine below_alloc ?_ _) | go_size)
set_option maxHeartbeats 1000000 in
theorem tp_core (x1 x2 a1 a2:Nat) (e:Int)
   (c1:∀w,Calls Try.prog 63 #[.float .f64 x1,.int .i64 e,.int .i64 (-1)] w fun x w'=>x=.returned (.float .f64 a1)∧Below w.heap.size w w')
   (c2:∀w,Calls Try.prog 63 #[.float .f64 x2,.int .i64 e,.int .i64 1] w fun x w'=>x=.returned (.float .f64 a2)∧Below w.heap.size w w') (w:World) :
   Calls Try.prog 34 #[.agg #[.float .f64 x1,.float .f64 x2],.int .i64 e] w fun x w'=>x=.returned (.agg #[.float .f64 a1,.float .f64 a2])∧Below w.heap.size w w':=by
 obtain⟨X,R,HB⟩:=enter1 w (.float .f64 x1) (.float .f64 x2) 64
 go_enter Try.func34,Try.ntmps34
 go_upto_region 1 with fail
 generalize (w.alloc (.cells #[.float .f64 x1,.float .f64 x2] 64)).alloc (.cells #[.float .f64 0,.float .f64 0] 64)=V1 at *
 have kx0:=fun n:Behind V1=>n.cell X.1 X.2.2.2.2
 have kx1:=fun n:Behind V1=>n.cell X.2.1 X.2.2.2.2
 refine tail_behind 8 (by kernel_rfl) (by kernel_rfl) ?_
 simp only [List.take_succ_cons,List.take_zero,List.drop_succ_cons,List.drop_zero]
 repeat (go_big_quiet_step (first
   | (go_at_call 63;with_reducible refine Behind.call (c1 _))
   | (go_at_call 63;with_reducible refine Behind.call (c2 _))))
 refine wpQuiet_nil ?_
 rintro _ ⟨m',rfl⟩
 obtain⟨W,hb1⟩:=m'
 dsimp only
 clear kx0 kx1
 replace R:=R.keep hb1;replace HB:=later HB hb1;clear hb1
 obtain⟨k0,k1,k2,k3,k4⟩:=id R
 go_wp2_with fail
 refine bodyPost_ret (v:=.agg #[.float .f64 a1,.float .f64 a2]) (by simp [results,Try.results34,go_sem, *]) rfl ⟨rfl, ?_⟩
 repeat' (first | (with_reducible exact HB) | (with_reducible refine Below.setCell ?_ ?_ _) | go_size)
def tpP (x:Nat×Nat) (e:Int):Nat×Nat:=(rpF x.1 e (-1),rpF x.2 e 1)
theorem tp_w (x1 x2:Nat) (e:Int) (l1:x1<18446744073709551616) (l2:x2<18446744073709551616) (h1:-100000≤e) (h2:e≤100000) (w:World) :
   Calls Try.prog 34 #[.agg #[.float .f64 x1,.float .f64 x2],.int .i64 e] w fun x w'=>x=.returned (.agg #[.float .f64 (tpP (x1,x2) e).1,.float .f64 (tpP (x1,x2) e).2])∧Below w.heap.size w w' :=
 tp_core x1 x2 _ _ e (fun w=>rp_w x1 e (-1) l1 h1 h2 w) (fun w=>rp_w x2 e 1 l2 h1 h2 w) w
def pwI (x:Nat):Int:=splitE x+(Lib.bitLen (splitM x):Int)
set_option maxHeartbeats 1000000 in
theorem powerOf_w (x:Nat) (hx:x<18446744073709551616) (hf:finB x=true) (hl:Lib.bitLen (splitM x)≤64) (w:World) :
   Calls Try.prog 62 #[.float .f64 x] w fun e w'=>e=.returned (.int .i64 (pwI x))∧Below w.heap.size w w':=by
 have cs:=fun w=>split_w x hx hf w
 obtain⟨b1,b2⟩:=splitE_bounds hf
 unfold pwI
 have hm:=splitM_lt x
 have cl:=fun w=>len64_i (splitM x:Int) w (by omega) (by omega)
 rw [Int.toNat_natCast] at cl
 generalize Lib.bitLen (splitM x)=L at *
 generalize splitG x=g at *
 generalize splitM x=m at *
 generalize splitE x=e at *
 go_enter Try.func62,Try.ntmps62
 go_upto_region 2 with (go_at_call 68;refine (cs _).mono ?_;rintro _ w1 ⟨rfl,hb1⟩)
 have HB:Below w.heap.size w (w1.alloc (Obj.cells #[Value.bool g,Value.int IntKind.u64 m,Value.int IntKind.i64 e] 88)):=below_alloc hb1 _
 have c1:(w1.alloc (Obj.cells #[Value.bool g,Value.int IntKind.u64 m,Value.int IntKind.i64 e] 88)).cell? ⟨w1.heap.size,1,none⟩=some (.int .u64 m):=by go_simp
 have c2:(w1.alloc (Obj.cells #[Value.bool g,Value.int IntKind.u64 m,Value.int IntKind.i64 e] 88)).cell? ⟨w1.heap.size,2,none⟩=some (.int .i64 e):=by go_simp
 have cz:w1.heap.size<(w1.alloc (Obj.cells #[Value.bool g,Value.int IntKind.u64 m,Value.int IntKind.i64 e] 88)).heap.size:=by go_size
 generalize w1.alloc (Obj.cells #[Value.bool g,Value.int IntKind.u64 m,Value.int IntKind.i64 e] 88)=V1 at *
 have k1:=fun n:Behind V1=>n.cell c1 cz
 have k2:=fun n:Behind V1=>n.cell c2 cz
 refine tail_behind 6 (by kernel_rfl) (by kernel_rfl) ?_
 simp only [List.take_succ_cons,List.take_zero,List.drop_succ_cons,List.drop_zero]
 repeat (go_big_quiet_step (first | (go_at_call 80;with_reducible refine Behind.same (cl _))))
 refine wpQuiet_nil ?_
 rintro _ ⟨q,rfl⟩
 obtain⟨W,hb2⟩:=q
 dsimp only
 clear k1 k2 c1 c2 cz
 replace HB:=later HB hb2
 go_wp2_with fail
 go_ret
 exact⟨rfl,HB⟩
end Go.Proofs.Ytfdomcnaaadedaa
