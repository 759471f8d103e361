/- The program's quotients (rat): what is made of two amounts; what has grown; turned round; which may be. The program's quotients (rat): what has grown; turned round; which may be. -/
import Derived.Test.YtgocelaghggpmaaDoorKt11
import Derived.Test.YtgocelaghggpmaaDoorKt20
namespace Go.Proofs.YtgocelaghggpmaaDoor
open Go.ChangeShapes Go.WideShapes Go.ChangeAt Go.RowKit
set_option maxHeartbeats 1000000 in
theorem rright_w11 (N D:Int) (hN:I64 N) (hD:I64 D) (w:World) :
   Calls Tryd.prog 31 #[.agg #[.int .i64 N,.int .i64 D]] w fun r w'=>r=.returned (.bool (rightR N D))∧Below w.heap.size w w':=by
 have X:=has2_new w (.int .i64 N) (.int .i64 D) 23
 have HB:Below w.heap.size w (w.alloc (.cells #[.int .i64 N,.int .i64 D] 23)):=by go_grown
 obtain⟨x0,x1,x2,x3,x4⟩:=id X
 by_cases c1:1≤D
 · by_cases c2:N=-9223372036854775808
   · have e:rightR N D=false:=by unfold rightR;rw [decide_eq_false (show ¬N≠-9223372036854775808 from fun q=>q c2)];simp
     rw [e]
     clear e
     subst c2
     go_enter Tryd.func31,Tryd.ntmps31
     go_upto_region 1 with fail
     generalize (w.alloc (.cells #[.int .i64 (-9223372036854775808),.int .i64 D] 23))=V1 at *
     go_quiet (fail)
     go_wp2_with fail
     go_ret
     exact⟨by simp,Go.below_drewN HB _⟩
   · have c2':-9223372036854775807≤N:=by have:=hN.1;omega
     have ca:=fun W=>ramount_w N hN.1 hN.2 W
     have cb:=fun W=>ramount_w D hD.1 hD.2 W
     have cg:=fun W=>rdivisor_w N.natAbs D.natAbs W
     have e:rightR N D=decide (Nat.gcd N.natAbs D.natAbs=1):=by unfold rightR;rw [decide_eq_true c1,decide_eq_true (show N≠-9223372036854775808 from c2)];simp
     rw [e]
     have e2:(((Nat.gcd N.natAbs D.natAbs:Nat):Int)==1)=decide (Nat.gcd N.natAbs D.natAbs=1):=by
       by_cases q:Nat.gcd N.natAbs D.natAbs=1
       · rw [decide_eq_true q]
         have:((Nat.gcd N.natAbs D.natAbs:Nat):Int)=1:=by omega
         rw [beq_iff_eq];exact this
       · rw [decide_eq_false q]
         have:¬((Nat.gcd N.natAbs D.natAbs:Nat):Int)=1:=by omega
         exact beq_eq_false_iff_ne.2 this
     have d1:decide (1≤D)=true:=decide_eq_true c1
     have d2:decide (-9223372036854775807≤N)=true:=decide_eq_true c2'
     clear e c2 hN hD
     generalize N.natAbs=n at *
     generalize D.natAbs=d at *
     generalize decide (Nat.gcd n d=1)=b at *
     generalize Nat.gcd n d=g at *
     go_enter Tryd.func31,Tryd.ntmps31
     go_upto_region 1 with fail
     generalize (w.alloc (.cells #[.int .i64 N,.int .i64 D] 23))=V1 at *
     have k0:=fun n:Behind V1=>n.cell X.1 X.2.2.2.2
     have k1:=fun n:Behind V1=>n.cell X.2.1 X.2.2.2.2
     clear x0 x1 x2 x3 x4
     refine region_behind (by kernel_rfl) (by kernel_rfl) ?_
     repeat (go_big_quiet_step (first
       | (go_at_call_of 52 (Value.int .i64 N);with_reducible refine Behind.same (ca _))
       | (go_at_call_of 52 (Value.int .i64 D);with_reducible refine Behind.same (cb _))
       | (go_at_call 60;with_reducible refine Behind.call (cg _))))
     refine wpQuiet_nil ?_
     rintro _ ⟨m',rfl⟩
     obtain⟨W,hb1⟩:=m'
     dsimp only
     go_wp2_with fail
     go_ret
     exact⟨rfl,later HB hb1⟩
 · have e:rightR N D=false:=by unfold rightR;rw [decide_eq_false c1];rfl
   rw [e]
   clear e
   go_enter Tryd.func31,Tryd.ntmps31
   go_upto_region 1 with fail
   generalize (w.alloc (.cells #[.int .i64 N,.int .i64 D] 23))=V1 at *
   go_quiet (fail)
   go_wp2_with fail
   go_ret
   exact⟨by simp,Go.below_drewN HB _⟩
end Go.Proofs.YtgocelaghggpmaaDoor
