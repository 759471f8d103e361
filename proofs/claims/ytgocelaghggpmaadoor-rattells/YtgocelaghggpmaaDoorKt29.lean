/- The least interval of a quotient (rat.Hold), walked; what its ends are. -/
import Derived.Test.YtgocelaghggpmaaDoorKt28
namespace Go.Proofs.YtgocelaghggpmaaDoor
open Go.ChangeShapes Go.WideShapes Go.ChangeAt Go.RowKit
set_option maxHeartbeats 2000000 in
theorem hold_bad (N D:Int)
   (r1:∀W,Calls Tryd.prog 31 #[.agg #[.int .i64 N,.int .i64 D]] W fun r w'=>r=.returned (.bool false)∧Below W.heap.size W w') (w:World) :
   Calls Tryd.prog 13 #[.agg #[.int .i64 N,.int .i64 D]] w fun r w'=>r=.returned (.agg #[.float .f64 (infI 1),.float .f64 (infI (-1))])∧Below w.heap.size w w':=by
 have HB:Below w.heap.size w ((w.alloc (.cells #[.int .i64 N,.int .i64 D] 23)).alloc (.cells #[.float .f64 0,.float .f64 0] 32)):=by go_grown
 have X:Has2 ((w.alloc (.cells #[.int .i64 N,.int .i64 D] 23)).alloc (.cells #[.float .f64 0,.float .f64 0] 32)) w.heap.size (.int .i64 N) (.int .i64 D):=⟨by go_simp,by go_simp,by go_simp,by go_simp,by go_size⟩
 have Z:Has2 ((w.alloc (.cells #[.int .i64 N,.int .i64 D] 23)).alloc (.cells #[.float .f64 0,.float .f64 0] 32)) (w.heap.size+1) (.float .f64 0) (.float .f64 0):=⟨by go_simp,by go_simp,by go_simp,by go_simp,by go_size⟩
 have ce:=fun W=>empty_w W
 go_enter Tryd.func13,Tryd.ntmps13
 go_upto_region 1 with fail
 generalize ((w.alloc (.cells #[.int .i64 N,.int .i64 D] 23)).alloc (.cells #[.float .f64 0,.float .f64 0] 32))=V1 at *
 obtain⟨px0,px1,px2,px3,px4⟩:=id X;obtain⟨pz0,pz1,pz2,pz3,pz4⟩:=id Z
 go_wp2_with (first | (go_at_call 31;(with_reducible refine (r1 _).mono ?_);rintro _ W1 ⟨rfl,hb1⟩;replace X:=X.keep hb1;replace Z:=Z.keep hb1;replace HB:=later HB hb1;clear hb1;obtain⟨qx0,qx1,qx2,qx3,qx4⟩:=id X;obtain⟨qz0,qz1,qz2,qz3,qz4⟩:=id Z) | (go_at_call 36;(with_reducible refine (ce _).mono ?_);rintro _ W2 ⟨rfl,hb1⟩;replace X:=X.keep hb1;replace Z:=Z.keep hb1;replace HB:=later HB hb1;clear hb1;obtain⟨rx0,rx1,rx2,rx3,rx4⟩:=id X;obtain⟨rz0,rz1,rz2,rz3,rz4⟩:=id Z))
 refine bodyPost_ret (v:=.agg #[.float .f64 (infI 1),.float .f64 (infI (-1))]) (by simp [results,Tryd.results13,go_sem, *]) rfl ⟨rfl, ?_⟩;repeat' (first | (with_reducible exact HB) | (with_reducible refine Below.setCell ?_ ?_ _) | go_size)
set_option maxHeartbeats 2000000 in
theorem hold_core (N D E:Int) (M r1 r2 lo hi:Nat) (g:Bool)
   (c1:∀W,Calls Tryd.prog 31 #[.agg #[.int .i64 N,.int .i64 D]] W fun r w'=>r=.returned (.bool true)∧Below W.heap.size W w')
   (c2:∀W,Calls Tryd.prog 37 #[.agg #[.int .i64 N,.int .i64 D]] W fun r w'=>r=.returned (.agg #[.bool g,.int .u64 (M:Int),.int .i64 E])∧Below W.heap.size W w')
   (c3:∀W,Calls Tryd.prog 39 #[.agg #[.bool g,.int .u64 (M:Int),.int .i64 E],.int .i64 (-1)] W fun r w'=>r=.returned (.float .f64 r1)∧Below W.heap.size W w')
   (c4:∀W,Calls Tryd.prog 39 #[.agg #[.bool g,.int .u64 (M:Int),.int .i64 E],.int .i64 1] W fun r w'=>r=.returned (.float .f64 r2)∧Below W.heap.size W w')
   (c5:∀W,Calls Tryd.prog 38 #[.float .f64 r1,.float .f64 r2] W fun r w'=>r=.returned (.agg #[.float .f64 lo,.float .f64 hi])∧Below W.heap.size W w') (w:World) :
   Calls Tryd.prog 13 #[.agg #[.int .i64 N,.int .i64 D]] w fun r w'=>r=.returned (.agg #[.float .f64 lo,.float .f64 hi])∧Below w.heap.size w w':=by
 have HB:Below w.heap.size w ((w.alloc (.cells #[.int .i64 N,.int .i64 D] 23)).alloc (.cells #[.float .f64 0,.float .f64 0] 32)):=by go_grown
 have X:Has2 ((w.alloc (.cells #[.int .i64 N,.int .i64 D] 23)).alloc (.cells #[.float .f64 0,.float .f64 0] 32)) w.heap.size (.int .i64 N) (.int .i64 D):=⟨by go_simp,by go_simp,by go_simp,by go_simp,by go_size⟩
 have Z:Has2 ((w.alloc (.cells #[.int .i64 N,.int .i64 D] 23)).alloc (.cells #[.float .f64 0,.float .f64 0] 32)) (w.heap.size+1) (.float .f64 0) (.float .f64 0):=⟨by go_simp,by go_simp,by go_simp,by go_simp,by go_size⟩
 go_enter Tryd.func13,Tryd.ntmps13
 go_upto_region 1 with fail
 generalize ((w.alloc (.cells #[.int .i64 N,.int .i64 D] 23)).alloc (.cells #[.float .f64 0,.float .f64 0] 32))=V1 at *
 obtain⟨px0,px1,px2,px3,px4⟩:=id X;obtain⟨pz0,pz1,pz2,pz3,pz4⟩:=id Z
 go_upto_region 4 with (first | (go_at_call 31;(with_reducible refine (c1 _).mono ?_);rintro _ W1 ⟨rfl,hb1⟩;replace X:=X.keep hb1;replace Z:=Z.keep hb1;replace HB:=later HB hb1;clear hb1;obtain⟨qx0,qx1,qx2,qx3,qx4⟩:=id X;obtain⟨qz0,qz1,qz2,qz3,qz4⟩:=id Z) | (go_at_call 37;(with_reducible refine (c2 _).mono ?_);rintro _ W2 ⟨rfl,hb1⟩;replace X:=X.keep hb1;replace Z:=Z.keep hb1;replace HB:=later HB hb1;clear hb1;obtain⟨rx0,rx1,rx2,rx3,rx4⟩:=id X;obtain⟨rz0,rz1,rz2,rz3,rz4⟩:=id Z))
 clear px0 px1 px2 px3 px4 pz0 pz1 pz2 pz3 pz4
 clear qx0 qx1 qx2 qx3 qx4 qz0 qz1 qz2 qz3 qz4
 clear rx0 rx1 rx2 rx3 rx4 rz0 rz1 rz2 rz3 rz4
 replace Z:=Z.keep (grewW W2 (.cells #[.bool g,.int .u64 (M:Int),.int .i64 E] 71))
 replace HB:=later HB (grewW W2 (.cells #[.bool g,.int .u64 (M:Int),.int .i64 E] 71))
 have P:Has3 (W2.alloc (.cells #[.bool g,.int .u64 (M:Int),.int .i64 E] 71)) W2.heap.size (.bool g) (.int .u64 (M:Int)) (.int .i64 E):=⟨by go_simp,by go_simp,by go_simp,by go_simp,by go_simp,by go_simp,by go_size⟩
 clear X
 generalize (W2.alloc (.cells #[.bool g,.int .u64 (M:Int),.int .i64 E] 71))=V3 at *
 generalize W2.heap.size=bP at *
 have kP0:=fun n:Behind V3=>n.cell P.1 P.2.2.2.2.2.2
 have kP1:=fun n:Behind V3=>n.cell P.2.1 P.2.2.2.2.2.2
 have kP2:=fun n:Behind V3=>n.cell P.2.2.1 P.2.2.2.2.2.2
 refine tail_behind 5 (by kernel_rfl) (by kernel_rfl) ?_
 simp only [List.take_succ_cons,List.take_zero,List.drop_succ_cons,List.drop_zero]
 repeat (go_big_quiet_step (first | (go_at_call 39;with_reducible refine Behind.call (c3 _)) | (go_at_call 39;with_reducible refine Behind.call (c4 _)) | (go_at_call 38;with_reducible refine Behind.call (c5 _))))
 refine wpQuiet_nil ?_
 rintro _ ⟨m',rfl⟩
 obtain⟨V4,hb1⟩:=m'
 dsimp only
 clear kP0 kP1 kP2
 replace Z:=Z.keep hb1
 replace HB:=later HB hb1
 clear hb1
 obtain⟨z0,z1,z2,z3,z4⟩:=id Z
 go_wp2_with fail
 refine bodyPost_ret (v:=.agg #[.float .f64 lo,.float .f64 hi]) (by simp [results,Tryd.results13,go_sem, *]) rfl ⟨rfl, ?_⟩;repeat' (first | (with_reducible exact HB) | (with_reducible refine Below.setCell ?_ ?_ _) | go_size)
def holdM (N D:Int):Nat:=if N=0 then 0 else parM N.natAbs D.natAbs
def holdE (N D:Int):Int:=if N=0 then 0 else parE N.natAbs D.natAbs
def holdP (N D:Int):Nat×Nat:=if rightR N D then makeP (roundN (decide (N<0)) (holdM N D) (holdE N D) (-1)) (roundN (decide (N<0)) (holdM N D) (holdE N D) 1) else (infI 1,infI (-1))
theorem holdM_lt {N D:Int} (h:rightR N D=true) (hN:I64 N) (hD:I64 D):holdM N D<18446744073709551616:=by
 have d1:=rightR_D h
 have n1:=rightR_N h
 obtain⟨a1,a2⟩:=hN
 obtain⟨b1,b2⟩:=hD
 unfold holdM
 by_cases c:N=0
 · rw [if_pos c];omega
 · rw [if_neg c]
   exact par_lt (by omega) (by omega) (by omega) (by omega)
theorem holdRat_w (N D:Int) (hN:I64 N) (hD:I64 D) (w:World) :
   Calls Tryd.prog 13 #[.agg #[.int .i64 N,.int .i64 D]] w fun r w'=>r=.returned (.agg #[.float .f64 (holdP N D).1,.float .f64 (holdP N D).2])∧Below w.heap.size w w':=by
 have r1:=fun W=>rright_w11 N D hN hD W
 cases h:rightR N D
 · have e:holdP N D=(infI 1,infI (-1)):=by unfold holdP;rw [h];rfl
   rw [e]
   rw [h] at r1
   exact hold_bad N D r1 w
 · have e:holdP N D=makeP (roundN (decide (N<0)) (holdM N D) (holdE N D) (-1)) (roundN (decide (N<0)) (holdM N D) (holdE N D) 1):=by unfold holdP;rw [h];rfl
   rw [e]
   rw [h] at r1
   have lt:=holdM_lt h hN hD
   exact hold_core N D (holdE N D) (holdM N D) _ _ _ _ (decide (N<0)) r1 (fun W=>parts_w N D hN hD (rightR_N h) (rightR_D h) W) (fun W=>round_w _ _ _ _ lt W) (fun W=>round_w _ _ _ _ lt W)
     (fun W=>make_w _ _ (roundN_facts _ _ _ _ lt).2.2 (roundN_facts _ _ _ _ lt).2.2 W) w
end Go.Proofs.YtgocelaghggpmaaDoor
