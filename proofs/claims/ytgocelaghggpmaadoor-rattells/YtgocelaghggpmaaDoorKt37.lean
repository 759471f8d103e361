/- The walk of the statement RatTells. -/
import Derived.Test.YtgocelaghggpmaaDoorKt22
import Derived.Test.YtgocelaghggpmaaDoorKt36
namespace Go.Proofs.YtgocelaghggpmaaDoor
open Go.ChangeShapes Go.WideShapes Go.ChangeAt Go.RowKit
set_option maxHeartbeats 2000000 in
theorem tells_core (N D:Int) (s:ByteArray) (lo hi:Nat) (w:World) (T:Pow10 w)
   (c1:∀W,Pow10 W→Calls Tryd.prog 10 #[.agg #[.int .i64 N,.int .i64 D]] W fun r w'=>r=.returned (.string s)∧Below W.heap.size W w')
   (c2:∀W,Pow10 W→Calls Tryd.prog 11 #[.agg #[.int .i64 N,.int .i64 D]] W fun r w'=>r=.returned (.string s)∧Below W.heap.size W w')
   (c3:∀W,Calls Tryd.prog 13 #[.agg #[.int .i64 N,.int .i64 D]] W fun r w'=>r=.returned (.agg #[.float .f64 lo,.float .f64 hi])∧Below W.heap.size W w')
   (c4:∀W,Calls Tryd.prog 14 #[.agg #[.int .i64 N,.int .i64 D]] W fun r w'=>r=.returned (.agg #[.float .f64 lo,.float .f64 hi])∧Below W.heap.size W w')
   (c5:∀W,Calls Tryd.prog 12 #[.agg #[.float .f64 lo,.float .f64 hi],.agg #[.float .f64 lo,.float .f64 hi]] W fun r w'=>r=.returned (.bool true)∧Below W.heap.size W w') :
   Calls Tryd.prog 4 #[.agg #[.int .i64 N,.int .i64 D]] w fun r w'=>r=.returned (.bool true)∧Below w.heap.size w w':=by
 have HB:Below w.heap.size w (w.alloc (.cells #[.int .i64 N,.int .i64 D] 23)):=by go_grown
 have X:=has2_new w (.int .i64 N) (.int .i64 D) 23
 go_enter Tryd.func4,Tryd.ntmps4
 go_upto_region 1 with fail
 generalize (w.alloc (.cells #[.int .i64 N,.int .i64 D] 23))=V1 at *
 have k0:=fun n:Behind V1=>n.cell X.1 X.2.2.2.2
 have k1:=fun n:Behind V1=>n.cell X.2.1 X.2.2.2.2
 have T1:Pow10 V1:=T.on HB
 have d1:=fun n:Behind V1=>c1 n.W (T1.on n.bel)
 have d2:=fun n:Behind V1=>c2 n.W (T1.on n.bel)
 clear c1 c2
 refine region_behind (by kernel_rfl) (by kernel_rfl) ?_
 repeat (go_big_quiet_step (first
   | (go_at_call 10;with_reducible refine Behind.call (d1 _))
   | (go_at_call 11;with_reducible refine Behind.call (d2 _))
   | (go_at_call 13;with_reducible refine Behind.call (c3 _))
   | (go_at_call 14;with_reducible refine Behind.call (c4 _))
   | (go_at_call 12;with_reducible refine Behind.call (c5 _))))
 refine wpQuiet_nil ?_
 rintro _ ⟨m',rfl⟩
 obtain⟨V2,hb1⟩:=m'
 dsimp only
 replace HB:=later HB hb1
 go_wp2_with fail
 go_ret
 exact⟨by simp,HB⟩
end Go.Proofs.YtgocelaghggpmaaDoor
