/- The walk of the statement RatBack. -/
import Derived.Test.YtdnpoacjamkhkaaJb34
import Derived.Test.YtdnpoacjamkhkaaJb36
namespace Go.Proofs.Ytdnpoacjamkhkaa
open Go.ChangeShapes Go.WideShapes Go.ChangeAt Go.RowKit
set_option maxHeartbeats 4000000 in
set_option maxRecDepth 4000 in
theorem back_bad (aN aD bN bD:Int) (b1 b2:Bool) (h:(b1&&b2)=false)
   (r1:∀W,Calls Try.prog 13 #[.agg #[.int .i64 aN,.int .i64 aD]] W fun r w'=>r=.returned (.bool b1)∧Below W.heap.size W w')
   (r2:∀W,Calls Try.prog 13 #[.agg #[.int .i64 bN,.int .i64 bD]] W fun r w'=>r=.returned (.bool b2)∧Below W.heap.size W w') (w:World) :
   Calls Try.prog 6 #[.agg #[.int .i64 aN,.int .i64 aD],.agg #[.int .i64 bN,.int .i64 bD]] w fun r w'=>r=.returned (.bool true)∧Below w.heap.size w w':=by
 have HB:Below w.heap.size w ((w.alloc (.cells #[.int .i64 aN,.int .i64 aD] 23)).alloc (.cells #[.int .i64 bN,.int .i64 bD] 23)):=by go_grown
 have X:Has2 ((w.alloc (.cells #[.int .i64 aN,.int .i64 aD] 23)).alloc (.cells #[.int .i64 bN,.int .i64 bD] 23)) (w.heap.size) (.int .i64 aN) (.int .i64 aD):=⟨by go_simp,by go_simp,by go_simp,by go_simp,by go_size⟩
 have Y:Has2 ((w.alloc (.cells #[.int .i64 aN,.int .i64 aD] 23)).alloc (.cells #[.int .i64 bN,.int .i64 bD] 23)) (w.heap.size+1) (.int .i64 bN) (.int .i64 bD):=⟨by go_simp,by go_simp,by go_simp,by go_simp,by go_size⟩
 go_enter Try.func6,Try.ntmps6
 go_upto_region 1 with fail
 generalize ((w.alloc (.cells #[.int .i64 aN,.int .i64 aD] 23)).alloc (.cells #[.int .i64 bN,.int .i64 bD] 23))=V0 at *
 obtain⟨pX0,pX1,pX2,pX3,pX4⟩:=id X;obtain⟨pY0,pY1,pY2,pY3,pY4⟩:=id Y
 cases b1
 · go_wp2_with (go_at_call_of 13 (Value.agg #[.int .i64 aN,.int .i64 aD]);(with_reducible refine (r1 _).mono ?_);rintro _ W1 ⟨rfl,hb1⟩;replace X:=X.keep hb1;replace Y:=Y.keep hb1;replace HB:=later HB hb1;clear hb1;obtain⟨p1X0,p1X1,p1X2,p1X3,p1X4⟩:=id X;obtain⟨p1Y0,p1Y1,p1Y2,p1Y3,p1Y4⟩:=id Y)
   go_ret
   exact⟨rfl,HB⟩
 · cases b2
   · go_wp2_with (first | (go_at_call_of 13 (Value.agg #[.int .i64 aN,.int .i64 aD]);(with_reducible refine (r1 _).mono ?_);rintro _ W1 ⟨rfl,hb1⟩;replace X:=X.keep hb1;replace Y:=Y.keep hb1;replace HB:=later HB hb1;clear hb1;obtain⟨p1X0,p1X1,p1X2,p1X3,p1X4⟩:=id X;obtain⟨p1Y0,p1Y1,p1Y2,p1Y3,p1Y4⟩:=id Y) | (go_at_call_of 13 (Value.agg #[.int .i64 bN,.int .i64 bD]);(with_reducible refine (r2 _).mono ?_);rintro _ W2 ⟨rfl,hb1⟩;replace X:=X.keep hb1;replace Y:=Y.keep hb1;replace HB:=later HB hb1;clear hb1;obtain⟨p2X0,p2X1,p2X2,p2X3,p2X4⟩:=id X;obtain⟨p2Y0,p2Y1,p2Y2,p2Y3,p2Y4⟩:=id Y))
     go_ret
     exact⟨rfl,HB⟩
   · cases h
set_option maxHeartbeats 8000000 in
set_option maxRecDepth 4000 in
theorem back_yq (aN aD bD x y s t:Int) (bN:Int) (hz:¬bN=0) (a1 a2 b1 b2 m1 m2 n1 n2 u1 u2 v1 v2:Nat)
   (r1:∀W,Calls Try.prog 13 #[.agg #[.int .i64 aN,.int .i64 aD]] W fun r w'=>r=.returned (.bool true)∧Below W.heap.size W w')
   (r2:∀W,Calls Try.prog 13 #[.agg #[.int .i64 bN,.int .i64 bD]] W fun r w'=>r=.returned (.bool true)∧Below W.heap.size W w')
   (c1:∀W,Calls Try.prog 14 #[.agg #[.int .i64 aN,.int .i64 aD],.agg #[.int .i64 bN,.int .i64 bD]] W fun r w'=>r=.returned (.tuple #[.agg #[.int .i64 x,.int .i64 y],.int .i64 0])∧Below W.heap.size W w')
   (h1:∀W,Calls Try.prog 27 #[.agg #[.int .i64 aN,.int .i64 aD]] W fun r w'=>r=.returned (.agg #[.float .f64 a1,.float .f64 a2])∧Below W.heap.size W w')
   (h2:∀W,Calls Try.prog 27 #[.agg #[.int .i64 bN,.int .i64 bD]] W fun r w'=>r=.returned (.agg #[.float .f64 b1,.float .f64 b2])∧Below W.heap.size W w')
   (c2:∀W,Calls Try.prog 16 #[.agg #[.int .i64 x,.int .i64 y],.agg #[.int .i64 bN,.int .i64 bD]] W fun r w'=>r=.returned (.tuple #[.agg #[.int .i64 aN,.int .i64 aD],.int .i64 0])∧Below W.heap.size W w')
   (h3:∀W,Calls Try.prog 27 #[.agg #[.int .i64 x,.int .i64 y]] W fun r w'=>r=.returned (.agg #[.float .f64 u1,.float .f64 u2])∧Below W.heap.size W w')
   (i1:∀W,Calls Try.prog 28 #[.agg #[.float .f64 a1,.float .f64 a2],.agg #[.float .f64 b1,.float .f64 b2]] W fun r w'=>r=.returned (.agg #[.float .f64 v1,.float .f64 v2])∧Below W.heap.size W w')
   (j1:∀W,Calls Try.prog 26 #[.agg #[.float .f64 u1,.float .f64 u2],.agg #[.float .f64 v1,.float .f64 v2]] W fun r w'=>r=.returned (.bool true)∧Below W.heap.size W w')
   (c3:∀W,Calls Try.prog 18 #[.agg #[.int .i64 aN,.int .i64 aD],.agg #[.int .i64 bN,.int .i64 bD]] W fun r w'=>r=.returned (.tuple #[.agg #[.int .i64 s,.int .i64 t],.int .i64 0])∧Below W.heap.size W w')
   (h4:∀W,Calls Try.prog 27 #[.agg #[.int .i64 s,.int .i64 t]] W fun r w'=>r=.returned (.agg #[.float .f64 m1,.float .f64 m2])∧Below W.heap.size W w')
   (i2:∀W,Calls Try.prog 29 #[.agg #[.float .f64 a1,.float .f64 a2],.agg #[.float .f64 b1,.float .f64 b2]] W fun r w'=>r=.returned (.agg #[.float .f64 n1,.float .f64 n2])∧Below W.heap.size W w')
   (j2:∀W,Calls Try.prog 26 #[.agg #[.float .f64 m1,.float .f64 m2],.agg #[.float .f64 n1,.float .f64 n2]] W fun r w'=>r=.returned (.bool true)∧Below W.heap.size W w')
   (c4:∀W,Calls Try.prog 20 #[.agg #[.int .i64 s,.int .i64 t],.agg #[.int .i64 bN,.int .i64 bD]] W fun r w'=>r=.returned (.tuple #[.agg #[.int .i64 aN,.int .i64 aD],.int .i64 0])∧Below W.heap.size W w') (w:World) :
   Calls Try.prog 6 #[.agg #[.int .i64 aN,.int .i64 aD],.agg #[.int .i64 bN,.int .i64 bD]] w fun r w'=>r=.returned (.bool true)∧Below w.heap.size w w':=by
 have HB:Below w.heap.size w ((w.alloc (.cells #[.int .i64 aN,.int .i64 aD] 23)).alloc (.cells #[.int .i64 bN,.int .i64 bD] 23)):=by go_grown
 have X:Has2 ((w.alloc (.cells #[.int .i64 aN,.int .i64 aD] 23)).alloc (.cells #[.int .i64 bN,.int .i64 bD] 23)) (w.heap.size) (.int .i64 aN) (.int .i64 aD):=⟨by go_simp,by go_simp,by go_simp,by go_simp,by go_size⟩
 have Y:Has2 ((w.alloc (.cells #[.int .i64 aN,.int .i64 aD] 23)).alloc (.cells #[.int .i64 bN,.int .i64 bD] 23)) (w.heap.size+1) (.int .i64 bN) (.int .i64 bD):=⟨by go_simp,by go_simp,by go_simp,by go_simp,by go_size⟩
 go_enter Try.func6,Try.ntmps6
 go_upto_region 1 with fail
 generalize ((w.alloc (.cells #[.int .i64 aN,.int .i64 aD] 23)).alloc (.cells #[.int .i64 bN,.int .i64 bD] 23))=V9 at *
 obtain⟨pX0,pX1,pX2,pX3,pX4⟩:=id X;obtain⟨pY0,pY1,pY2,pY3,pY4⟩:=id Y
 go_upto_region 3 with (first | (go_at_call_of 13 (Value.agg #[.int .i64 aN,.int .i64 aD]);(with_reducible refine (r1 _).mono ?_);rintro _ W1 ⟨rfl,hb1⟩;replace X:=X.keep hb1;replace Y:=Y.keep hb1;replace HB:=later HB hb1;clear hb1;obtain⟨p1X0,p1X1,p1X2,p1X3,p1X4⟩:=id X;obtain⟨p1Y0,p1Y1,p1Y2,p1Y3,p1Y4⟩:=id Y) | (go_at_call_of 13 (Value.agg #[.int .i64 bN,.int .i64 bD]);(with_reducible refine (r2 _).mono ?_);rintro _ W2 ⟨rfl,hb1⟩;replace X:=X.keep hb1;replace Y:=Y.keep hb1;replace HB:=later HB hb1;clear hb1;obtain⟨p2X0,p2X1,p2X2,p2X3,p2X4⟩:=id X;obtain⟨p2Y0,p2Y1,p2Y2,p2Y3,p2Y4⟩:=id Y))
 clear pX0 pX1 pX2 pX3 pX4 pY0 pY1 pY2 pY3 pY4
 clear p1X0 p1X1 p1X2 p1X3 p1X4 p1Y0 p1Y1 p1Y2 p1Y3 p1Y4
 clear p2X0 p2X1 p2X2 p2X3 p2X4 p2Y0 p2Y1 p2Y2 p2Y3 p2Y4
 generalize W2=V0 at *
 obtain⟨qX0,qX1,qX2,qX3,qX4⟩:=id X;obtain⟨qY0,qY1,qY2,qY3,qY4⟩:=id Y
 go_upto_region 4 with (go_at_call 14;(with_reducible refine (c1 _).mono ?_);rintro _ V1 ⟨rfl,hb1⟩;replace X:=X.keep hb1;replace Y:=Y.keep hb1;replace HB:=later HB hb1;clear hb1;clear qX0 qX1 qX2 qX3 qX4 qY0 qY1 qY2 qY3 qY4;obtain⟨qX0,qX1,qX2,qX3,qX4⟩:=id X;obtain⟨qY0,qY1,qY2,qY3,qY4⟩:=id Y)
 clear qX0 qX1 qX2 qX3 qX4 qY0 qY1 qY2 qY3 qY4
 have nXP:Hid ((w.heap.size)<V1.heap.size):=X.lt
 have nYP:Hid ((w.heap.size+1)<V1.heap.size):=Y.lt
 replace X:=X.keep (grewW V1 (.cells #[.int .i64 x,.int .i64 y] 23))
 replace Y:=Y.keep (grewW V1 (.cells #[.int .i64 x,.int .i64 y] 23))
 replace HB:=later HB (grewW V1 (.cells #[.int .i64 x,.int .i64 y] 23))
 have P:=has2_new V1 (.int .i64 x) (.int .i64 y) 23
 generalize V1.alloc (.cells #[.int .i64 x,.int .i64 y] 23)=V2 at *
 generalize V1.heap.size=bP at *
 obtain⟨qX0,qX1,qX2,qX3,qX4⟩:=id X;obtain⟨qY0,qY1,qY2,qY3,qY4⟩:=id Y;obtain⟨qP0,qP1,qP2,qP3,qP4⟩:=id P
 go_upto_region 5 with fail
 go_upto_region 6 with (go_at_call 16;(with_reducible refine (c2 _).mono ?_);rintro _ V3 ⟨rfl,hb1⟩;replace X:=X.keep hb1;replace Y:=Y.keep hb1;replace P:=P.keep hb1;replace HB:=later HB hb1;clear hb1;clear qX0 qX1 qX2 qX3 qX4 qY0 qY1 qY2 qY3 qY4 qP0 qP1 qP2 qP3 qP4;obtain⟨qX0,qX1,qX2,qX3,qX4⟩:=id X;obtain⟨qY0,qY1,qY2,qY3,qY4⟩:=id Y;obtain⟨qP0,qP1,qP2,qP3,qP4⟩:=id P)
 clear qX0 qX1 qX2 qX3 qX4 qY0 qY1 qY2 qY3 qY4 qP0 qP1 qP2 qP3 qP4
 have nXQ:Hid ((w.heap.size)<V3.heap.size):=X.lt
 have nYQ:Hid ((w.heap.size+1)<V3.heap.size):=Y.lt
 have nPQ:Hid (bP<V3.heap.size):=P.lt
 replace X:=X.keep (grewW V3 (.cells #[.int .i64 aN,.int .i64 aD] 23))
 replace Y:=Y.keep (grewW V3 (.cells #[.int .i64 aN,.int .i64 aD] 23))
 replace P:=P.keep (grewW V3 (.cells #[.int .i64 aN,.int .i64 aD] 23))
 replace HB:=later HB (grewW V3 (.cells #[.int .i64 aN,.int .i64 aD] 23))
 have Q:=has2_new V3 (.int .i64 aN) (.int .i64 aD) 23
 generalize V3.alloc (.cells #[.int .i64 aN,.int .i64 aD] 23)=V4 at *
 generalize V3.heap.size=bQ at *
 have kX0:=fun n:Behind V4=>n.cell X.1 X.2.2.2.2
 have kX1:=fun n:Behind V4=>n.cell X.2.1 X.2.2.2.2
 have kY0:=fun n:Behind V4=>n.cell Y.1 Y.2.2.2.2
 have kY1:=fun n:Behind V4=>n.cell Y.2.1 Y.2.2.2.2
 have kP0:=fun n:Behind V4=>n.cell P.1 P.2.2.2.2
 have kP1:=fun n:Behind V4=>n.cell P.2.1 P.2.2.2.2
 have kQ0:=fun n:Behind V4=>n.cell Q.1 Q.2.2.2.2
 have kQ1:=fun n:Behind V4=>n.cell Q.2.1 Q.2.2.2.2
 refine region_behind (by kernel_rfl) (by kernel_rfl) ?_
 repeat (go_big_quiet_step (first | (go_at_call 27;with_reducible refine Behind.call (h1 _)) | (go_at_call 27;with_reducible refine Behind.call (h2 _)) | (go_at_call 27;with_reducible refine Behind.call (h3 _)) | (go_at_call 28;with_reducible refine Behind.call (i1 _)) | (go_at_call 26;with_reducible refine Behind.call (j1 _))))
 refine wpQuiet_nil ?_
 rintro _ ⟨m',rfl⟩
 obtain⟨V5,hb1⟩:=m'
 dsimp only
 clear kX0 kX1 kY0 kY1 kP0 kP1 kQ0 kQ1
 replace X:=X.keep hb1
 replace Y:=Y.keep hb1
 replace P:=P.keep hb1
 replace Q:=Q.keep hb1
 replace HB:=later HB hb1
 clear hb1
 obtain⟨qX0,qX1,qX2,qX3,qX4⟩:=id X;obtain⟨qY0,qY1,qY2,qY3,qY4⟩:=id Y;obtain⟨qP0,qP1,qP2,qP3,qP4⟩:=id P;obtain⟨qQ0,qQ1,qQ2,qQ3,qQ4⟩:=id Q
 go_upto_region 8 with fail
 go_upto_region 9 with (go_at_call 18;(with_reducible refine (c3 _).mono ?_);rintro _ V6 ⟨rfl,hb1⟩;replace X:=X.keep hb1;replace Y:=Y.keep hb1;replace P:=P.keep hb1;replace Q:=Q.keep hb1;replace HB:=later HB hb1;clear hb1;clear qX0 qX1 qX2 qX3 qX4 qY0 qY1 qY2 qY3 qY4 qP0 qP1 qP2 qP3 qP4 qQ0 qQ1 qQ2 qQ3 qQ4;obtain⟨qX0,qX1,qX2,qX3,qX4⟩:=id X;obtain⟨qY0,qY1,qY2,qY3,qY4⟩:=id Y;obtain⟨qP0,qP1,qP2,qP3,qP4⟩:=id P;obtain⟨qQ0,qQ1,qQ2,qQ3,qQ4⟩:=id Q)
 clear qX0 qX1 qX2 qX3 qX4 qY0 qY1 qY2 qY3 qY4 qP0 qP1 qP2 qP3 qP4 qQ0 qQ1 qQ2 qQ3 qQ4
 replace X:=X.far2 (c:=bP) (by have:=nXP.out;omega) (.int .i64 s) (.int .i64 t)
 replace Y:=Y.far2 (c:=bP) (by have:=nYP.out;omega) (.int .i64 s) (.int .i64 t)
 replace Q:=Q.far2 (c:=bP) (by have:=nPQ.out;omega) (.int .i64 s) (.int .i64 t)
 replace P:=P.put (.int .i64 s) (.int .i64 t)
 replace HB:Below w.heap.size w ((V6.setCell ⟨bP,0,none⟩ (.int .i64 s)).setCell ⟨bP,1,none⟩ (.int .i64 t)):=(HB.setCell (by simp;have:=nXP.out;omega) _).setCell (by simp;have:=nXP.out;omega) _
 generalize ((V6.setCell ⟨bP,0,none⟩ (.int .i64 s)).setCell ⟨bP,1,none⟩ (.int .i64 t))=V7 at *
 obtain⟨qX0,qX1,qX2,qX3,qX4⟩:=id X;obtain⟨qY0,qY1,qY2,qY3,qY4⟩:=id Y;obtain⟨qP0,qP1,qP2,qP3,qP4⟩:=id P;obtain⟨qQ0,qQ1,qQ2,qQ3,qQ4⟩:=id Q
 go_upto_region 10 with fail
 clear qX0 qX1 qX2 qX3 qX4 qY0 qY1 qY2 qY3 qY4 qP0 qP1 qP2 qP3 qP4 qQ0 qQ1 qQ2 qQ3 qQ4
 have kX0:=fun n:Behind V7=>n.cell X.1 X.2.2.2.2
 have kX1:=fun n:Behind V7=>n.cell X.2.1 X.2.2.2.2
 have kY0:=fun n:Behind V7=>n.cell Y.1 Y.2.2.2.2
 have kY1:=fun n:Behind V7=>n.cell Y.2.1 Y.2.2.2.2
 have kP0:=fun n:Behind V7=>n.cell P.1 P.2.2.2.2
 have kP1:=fun n:Behind V7=>n.cell P.2.1 P.2.2.2.2
 have kQ0:=fun n:Behind V7=>n.cell Q.1 Q.2.2.2.2
 have kQ1:=fun n:Behind V7=>n.cell Q.2.1 Q.2.2.2.2
 refine region_behind (by kernel_rfl) (by kernel_rfl) ?_
 repeat (go_big_quiet_step (first | (go_at_call 27;with_reducible refine Behind.call (h1 _)) | (go_at_call 27;with_reducible refine Behind.call (h2 _)) | (go_at_call 27;with_reducible refine Behind.call (h4 _)) | (go_at_call 29;with_reducible refine Behind.call (i2 _)) | (go_at_call 26;with_reducible refine Behind.call (j2 _))))
 refine wpQuiet_nil ?_
 rintro _ ⟨m',rfl⟩
 obtain⟨V8,hb1⟩:=m'
 dsimp only
 clear kX0 kX1 kY0 kY1 kP0 kP1 kQ0 kQ1
 replace X:=X.keep hb1
 replace Y:=Y.keep hb1
 replace P:=P.keep hb1
 replace Q:=Q.keep hb1
 replace HB:=later HB hb1
 clear hb1
 obtain⟨qX0,qX1,qX2,qX3,qX4⟩:=id X;obtain⟨qY0,qY1,qY2,qY3,qY4⟩:=id Y;obtain⟨qP0,qP1,qP2,qP3,qP4⟩:=id P;obtain⟨qQ0,qQ1,qQ2,qQ3,qQ4⟩:=id Q
 go_upto_region 12 with fail
 go_upto_region 13 with (go_at_call 20;(with_reducible refine (c4 _).mono ?_);rintro _ V9 ⟨rfl,hb1⟩;replace X:=X.keep hb1;replace Y:=Y.keep hb1;replace P:=P.keep hb1;replace Q:=Q.keep hb1;replace HB:=later HB hb1;clear hb1;clear qX0 qX1 qX2 qX3 qX4 qY0 qY1 qY2 qY3 qY4 qP0 qP1 qP2 qP3 qP4 qQ0 qQ1 qQ2 qQ3 qQ4;obtain⟨qX0,qX1,qX2,qX3,qX4⟩:=id X;obtain⟨qY0,qY1,qY2,qY3,qY4⟩:=id Y;obtain⟨qP0,qP1,qP2,qP3,qP4⟩:=id P;obtain⟨qQ0,qQ1,qQ2,qQ3,qQ4⟩:=id Q)
 clear qX0 qX1 qX2 qX3 qX4 qY0 qY1 qY2 qY3 qY4 qP0 qP1 qP2 qP3 qP4 qQ0 qQ1 qQ2 qQ3 qQ4
 have nXK:Hid ((w.heap.size)<V9.heap.size):=X.lt
 have nYK:Hid ((w.heap.size+1)<V9.heap.size):=Y.lt
 have nPK:Hid (bP<V9.heap.size):=P.lt
 have nQK:Hid (bQ<V9.heap.size):=Q.lt
 replace X:=X.keep (grewW V9 (.cells #[.int .i64 aN,.int .i64 aD] 23))
 replace Y:=Y.keep (grewW V9 (.cells #[.int .i64 aN,.int .i64 aD] 23))
 replace P:=P.keep (grewW V9 (.cells #[.int .i64 aN,.int .i64 aD] 23))
 replace Q:=Q.keep (grewW V9 (.cells #[.int .i64 aN,.int .i64 aD] 23))
 replace HB:=later HB (grewW V9 (.cells #[.int .i64 aN,.int .i64 aD] 23))
 have K:=has2_new V9 (.int .i64 aN) (.int .i64 aD) 23
 generalize V9.alloc (.cells #[.int .i64 aN,.int .i64 aD] 23)=V10 at *
 generalize V9.heap.size=bK at *
 obtain⟨qX0,qX1,qX2,qX3,qX4⟩:=id X;obtain⟨qY0,qY1,qY2,qY3,qY4⟩:=id Y;obtain⟨qP0,qP1,qP2,qP3,qP4⟩:=id P;obtain⟨qQ0,qQ1,qQ2,qQ3,qQ4⟩:=id Q;obtain⟨qK0,qK1,qK2,qK3,qK4⟩:=id K
 have hz':(bN != 0)=true:=by simpa using hz
 go_wp2_with fail
 go_ret
 exact⟨by simp,HB⟩
set_option maxHeartbeats 8000000 in
set_option maxRecDepth 4000 in
theorem back_yz (aN aD bD x y s t:Int) (p q i:Int) (a1 a2 b1 b2 m1 m2 n1 n2 u1 u2 v1 v2:Nat)
   (r1:∀W,Calls Try.prog 13 #[.agg #[.int .i64 aN,.int .i64 aD]] W fun r w'=>r=.returned (.bool true)∧Below W.heap.size W w')
   (r2:∀W,Calls Try.prog 13 #[.agg #[.int .i64 0,.int .i64 bD]] W fun r w'=>r=.returned (.bool true)∧Below W.heap.size W w')
   (c1:∀W,Calls Try.prog 14 #[.agg #[.int .i64 aN,.int .i64 aD],.agg #[.int .i64 0,.int .i64 bD]] W fun r w'=>r=.returned (.tuple #[.agg #[.int .i64 x,.int .i64 y],.int .i64 0])∧Below W.heap.size W w')
   (h1:∀W,Calls Try.prog 27 #[.agg #[.int .i64 aN,.int .i64 aD]] W fun r w'=>r=.returned (.agg #[.float .f64 a1,.float .f64 a2])∧Below W.heap.size W w')
   (h2:∀W,Calls Try.prog 27 #[.agg #[.int .i64 0,.int .i64 bD]] W fun r w'=>r=.returned (.agg #[.float .f64 b1,.float .f64 b2])∧Below W.heap.size W w')
   (c2:∀W,Calls Try.prog 16 #[.agg #[.int .i64 x,.int .i64 y],.agg #[.int .i64 0,.int .i64 bD]] W fun r w'=>r=.returned (.tuple #[.agg #[.int .i64 aN,.int .i64 aD],.int .i64 0])∧Below W.heap.size W w')
   (h3:∀W,Calls Try.prog 27 #[.agg #[.int .i64 x,.int .i64 y]] W fun r w'=>r=.returned (.agg #[.float .f64 u1,.float .f64 u2])∧Below W.heap.size W w')
   (i1:∀W,Calls Try.prog 28 #[.agg #[.float .f64 a1,.float .f64 a2],.agg #[.float .f64 b1,.float .f64 b2]] W fun r w'=>r=.returned (.agg #[.float .f64 v1,.float .f64 v2])∧Below W.heap.size W w')
   (j1:∀W,Calls Try.prog 26 #[.agg #[.float .f64 u1,.float .f64 u2],.agg #[.float .f64 v1,.float .f64 v2]] W fun r w'=>r=.returned (.bool true)∧Below W.heap.size W w')
   (c3:∀W,Calls Try.prog 18 #[.agg #[.int .i64 aN,.int .i64 aD],.agg #[.int .i64 0,.int .i64 bD]] W fun r w'=>r=.returned (.tuple #[.agg #[.int .i64 s,.int .i64 t],.int .i64 0])∧Below W.heap.size W w')
   (h4:∀W,Calls Try.prog 27 #[.agg #[.int .i64 s,.int .i64 t]] W fun r w'=>r=.returned (.agg #[.float .f64 m1,.float .f64 m2])∧Below W.heap.size W w')
   (i2:∀W,Calls Try.prog 29 #[.agg #[.float .f64 a1,.float .f64 a2],.agg #[.float .f64 b1,.float .f64 b2]] W fun r w'=>r=.returned (.agg #[.float .f64 n1,.float .f64 n2])∧Below W.heap.size W w')
   (j2:∀W,Calls Try.prog 26 #[.agg #[.float .f64 m1,.float .f64 m2],.agg #[.float .f64 n1,.float .f64 n2]] W fun r w'=>r=.returned (.bool true)∧Below W.heap.size W w')
   (c4:∀W,Calls Try.prog 20 #[.agg #[.int .i64 s,.int .i64 t],.agg #[.int .i64 0,.int .i64 bD]] W fun r w'=>r=.returned (.tuple #[.agg #[.int .i64 p,.int .i64 q],.int .i64 i])∧Below W.heap.size W w') (w:World) :
   Calls Try.prog 6 #[.agg #[.int .i64 aN,.int .i64 aD],.agg #[.int .i64 0,.int .i64 bD]] w fun r w'=>r=.returned (.bool true)∧Below w.heap.size w w':=by
 have HB:Below w.heap.size w ((w.alloc (.cells #[.int .i64 aN,.int .i64 aD] 23)).alloc (.cells #[.int .i64 0,.int .i64 bD] 23)):=by go_grown
 have X:Has2 ((w.alloc (.cells #[.int .i64 aN,.int .i64 aD] 23)).alloc (.cells #[.int .i64 0,.int .i64 bD] 23)) (w.heap.size) (.int .i64 aN) (.int .i64 aD):=⟨by go_simp,by go_simp,by go_simp,by go_simp,by go_size⟩
 have Y:Has2 ((w.alloc (.cells #[.int .i64 aN,.int .i64 aD] 23)).alloc (.cells #[.int .i64 0,.int .i64 bD] 23)) (w.heap.size+1) (.int .i64 0) (.int .i64 bD):=⟨by go_simp,by go_simp,by go_simp,by go_simp,by go_size⟩
 go_enter Try.func6,Try.ntmps6
 go_upto_region 1 with fail
 generalize ((w.alloc (.cells #[.int .i64 aN,.int .i64 aD] 23)).alloc (.cells #[.int .i64 0,.int .i64 bD] 23))=V9 at *
 obtain⟨pX0,pX1,pX2,pX3,pX4⟩:=id X;obtain⟨pY0,pY1,pY2,pY3,pY4⟩:=id Y
 go_upto_region 3 with (first | (go_at_call_of 13 (Value.agg #[.int .i64 aN,.int .i64 aD]);(with_reducible refine (r1 _).mono ?_);rintro _ W1 ⟨rfl,hb1⟩;replace X:=X.keep hb1;replace Y:=Y.keep hb1;replace HB:=later HB hb1;clear hb1;obtain⟨p1X0,p1X1,p1X2,p1X3,p1X4⟩:=id X;obtain⟨p1Y0,p1Y1,p1Y2,p1Y3,p1Y4⟩:=id Y) | (go_at_call_of 13 (Value.agg #[.int .i64 0,.int .i64 bD]);(with_reducible refine (r2 _).mono ?_);rintro _ W2 ⟨rfl,hb1⟩;replace X:=X.keep hb1;replace Y:=Y.keep hb1;replace HB:=later HB hb1;clear hb1;obtain⟨p2X0,p2X1,p2X2,p2X3,p2X4⟩:=id X;obtain⟨p2Y0,p2Y1,p2Y2,p2Y3,p2Y4⟩:=id Y))
 clear pX0 pX1 pX2 pX3 pX4 pY0 pY1 pY2 pY3 pY4
 clear p1X0 p1X1 p1X2 p1X3 p1X4 p1Y0 p1Y1 p1Y2 p1Y3 p1Y4
 clear p2X0 p2X1 p2X2 p2X3 p2X4 p2Y0 p2Y1 p2Y2 p2Y3 p2Y4
 generalize W2=V0 at *
 obtain⟨qX0,qX1,qX2,qX3,qX4⟩:=id X;obtain⟨qY0,qY1,qY2,qY3,qY4⟩:=id Y
 go_upto_region 4 with (go_at_call 14;(with_reducible refine (c1 _).mono ?_);rintro _ V1 ⟨rfl,hb1⟩;replace X:=X.keep hb1;replace Y:=Y.keep hb1;replace HB:=later HB hb1;clear hb1;clear qX0 qX1 qX2 qX3 qX4 qY0 qY1 qY2 qY3 qY4;obtain⟨qX0,qX1,qX2,qX3,qX4⟩:=id X;obtain⟨qY0,qY1,qY2,qY3,qY4⟩:=id Y)
 clear qX0 qX1 qX2 qX3 qX4 qY0 qY1 qY2 qY3 qY4
 have nXP:Hid ((w.heap.size)<V1.heap.size):=X.lt
 have nYP:Hid ((w.heap.size+1)<V1.heap.size):=Y.lt
 replace X:=X.keep (grewW V1 (.cells #[.int .i64 x,.int .i64 y] 23))
 replace Y:=Y.keep (grewW V1 (.cells #[.int .i64 x,.int .i64 y] 23))
 replace HB:=later HB (grewW V1 (.cells #[.int .i64 x,.int .i64 y] 23))
 have P:=has2_new V1 (.int .i64 x) (.int .i64 y) 23
 generalize V1.alloc (.cells #[.int .i64 x,.int .i64 y] 23)=V2 at *
 generalize V1.heap.size=bP at *
 obtain⟨qX0,qX1,qX2,qX3,qX4⟩:=id X;obtain⟨qY0,qY1,qY2,qY3,qY4⟩:=id Y;obtain⟨qP0,qP1,qP2,qP3,qP4⟩:=id P
 go_upto_region 5 with fail
 go_upto_region 6 with (go_at_call 16;(with_reducible refine (c2 _).mono ?_);rintro _ V3 ⟨rfl,hb1⟩;replace X:=X.keep hb1;replace Y:=Y.keep hb1;replace P:=P.keep hb1;replace HB:=later HB hb1;clear hb1;clear qX0 qX1 qX2 qX3 qX4 qY0 qY1 qY2 qY3 qY4 qP0 qP1 qP2 qP3 qP4;obtain⟨qX0,qX1,qX2,qX3,qX4⟩:=id X;obtain⟨qY0,qY1,qY2,qY3,qY4⟩:=id Y;obtain⟨qP0,qP1,qP2,qP3,qP4⟩:=id P)
 clear qX0 qX1 qX2 qX3 qX4 qY0 qY1 qY2 qY3 qY4 qP0 qP1 qP2 qP3 qP4
 have nXQ:Hid ((w.heap.size)<V3.heap.size):=X.lt
 have nYQ:Hid ((w.heap.size+1)<V3.heap.size):=Y.lt
 have nPQ:Hid (bP<V3.heap.size):=P.lt
 replace X:=X.keep (grewW V3 (.cells #[.int .i64 aN,.int .i64 aD] 23))
 replace Y:=Y.keep (grewW V3 (.cells #[.int .i64 aN,.int .i64 aD] 23))
 replace P:=P.keep (grewW V3 (.cells #[.int .i64 aN,.int .i64 aD] 23))
 replace HB:=later HB (grewW V3 (.cells #[.int .i64 aN,.int .i64 aD] 23))
 have Q:=has2_new V3 (.int .i64 aN) (.int .i64 aD) 23
 generalize V3.alloc (.cells #[.int .i64 aN,.int .i64 aD] 23)=V4 at *
 generalize V3.heap.size=bQ at *
 have kX0:=fun n:Behind V4=>n.cell X.1 X.2.2.2.2
 have kX1:=fun n:Behind V4=>n.cell X.2.1 X.2.2.2.2
 have kY0:=fun n:Behind V4=>n.cell Y.1 Y.2.2.2.2
 have kY1:=fun n:Behind V4=>n.cell Y.2.1 Y.2.2.2.2
 have kP0:=fun n:Behind V4=>n.cell P.1 P.2.2.2.2
 have kP1:=fun n:Behind V4=>n.cell P.2.1 P.2.2.2.2
 have kQ0:=fun n:Behind V4=>n.cell Q.1 Q.2.2.2.2
 have kQ1:=fun n:Behind V4=>n.cell Q.2.1 Q.2.2.2.2
 refine region_behind (by kernel_rfl) (by kernel_rfl) ?_
 repeat (go_big_quiet_step (first | (go_at_call 27;with_reducible refine Behind.call (h1 _)) | (go_at_call 27;with_reducible refine Behind.call (h2 _)) | (go_at_call 27;with_reducible refine Behind.call (h3 _)) | (go_at_call 28;with_reducible refine Behind.call (i1 _)) | (go_at_call 26;with_reducible refine Behind.call (j1 _))))
 refine wpQuiet_nil ?_
 rintro _ ⟨m',rfl⟩
 obtain⟨V5,hb1⟩:=m'
 dsimp only
 clear kX0 kX1 kY0 kY1 kP0 kP1 kQ0 kQ1
 replace X:=X.keep hb1
 replace Y:=Y.keep hb1
 replace P:=P.keep hb1
 replace Q:=Q.keep hb1
 replace HB:=later HB hb1
 clear hb1
 obtain⟨qX0,qX1,qX2,qX3,qX4⟩:=id X;obtain⟨qY0,qY1,qY2,qY3,qY4⟩:=id Y;obtain⟨qP0,qP1,qP2,qP3,qP4⟩:=id P;obtain⟨qQ0,qQ1,qQ2,qQ3,qQ4⟩:=id Q
 go_upto_region 8 with fail
 go_upto_region 9 with (go_at_call 18;(with_reducible refine (c3 _).mono ?_);rintro _ V6 ⟨rfl,hb1⟩;replace X:=X.keep hb1;replace Y:=Y.keep hb1;replace P:=P.keep hb1;replace Q:=Q.keep hb1;replace HB:=later HB hb1;clear hb1;clear qX0 qX1 qX2 qX3 qX4 qY0 qY1 qY2 qY3 qY4 qP0 qP1 qP2 qP3 qP4 qQ0 qQ1 qQ2 qQ3 qQ4;obtain⟨qX0,qX1,qX2,qX3,qX4⟩:=id X;obtain⟨qY0,qY1,qY2,qY3,qY4⟩:=id Y;obtain⟨qP0,qP1,qP2,qP3,qP4⟩:=id P;obtain⟨qQ0,qQ1,qQ2,qQ3,qQ4⟩:=id Q)
 clear qX0 qX1 qX2 qX3 qX4 qY0 qY1 qY2 qY3 qY4 qP0 qP1 qP2 qP3 qP4 qQ0 qQ1 qQ2 qQ3 qQ4
 replace X:=X.far2 (c:=bP) (by have:=nXP.out;omega) (.int .i64 s) (.int .i64 t)
 replace Y:=Y.far2 (c:=bP) (by have:=nYP.out;omega) (.int .i64 s) (.int .i64 t)
 replace Q:=Q.far2 (c:=bP) (by have:=nPQ.out;omega) (.int .i64 s) (.int .i64 t)
 replace P:=P.put (.int .i64 s) (.int .i64 t)
 replace HB:Below w.heap.size w ((V6.setCell ⟨bP,0,none⟩ (.int .i64 s)).setCell ⟨bP,1,none⟩ (.int .i64 t)):=(HB.setCell (by simp;have:=nXP.out;omega) _).setCell (by simp;have:=nXP.out;omega) _
 generalize ((V6.setCell ⟨bP,0,none⟩ (.int .i64 s)).setCell ⟨bP,1,none⟩ (.int .i64 t))=V7 at *
 obtain⟨qX0,qX1,qX2,qX3,qX4⟩:=id X;obtain⟨qY0,qY1,qY2,qY3,qY4⟩:=id Y;obtain⟨qP0,qP1,qP2,qP3,qP4⟩:=id P;obtain⟨qQ0,qQ1,qQ2,qQ3,qQ4⟩:=id Q
 go_upto_region 10 with fail
 clear qX0 qX1 qX2 qX3 qX4 qY0 qY1 qY2 qY3 qY4 qP0 qP1 qP2 qP3 qP4 qQ0 qQ1 qQ2 qQ3 qQ4
 have kX0:=fun n:Behind V7=>n.cell X.1 X.2.2.2.2
 have kX1:=fun n:Behind V7=>n.cell X.2.1 X.2.2.2.2
 have kY0:=fun n:Behind V7=>n.cell Y.1 Y.2.2.2.2
 have kY1:=fun n:Behind V7=>n.cell Y.2.1 Y.2.2.2.2
 have kP0:=fun n:Behind V7=>n.cell P.1 P.2.2.2.2
 have kP1:=fun n:Behind V7=>n.cell P.2.1 P.2.2.2.2
 have kQ0:=fun n:Behind V7=>n.cell Q.1 Q.2.2.2.2
 have kQ1:=fun n:Behind V7=>n.cell Q.2.1 Q.2.2.2.2
 refine region_behind (by kernel_rfl) (by kernel_rfl) ?_
 repeat (go_big_quiet_step (first | (go_at_call 27;with_reducible refine Behind.call (h1 _)) | (go_at_call 27;with_reducible refine Behind.call (h2 _)) | (go_at_call 27;with_reducible refine Behind.call (h4 _)) | (go_at_call 29;with_reducible refine Behind.call (i2 _)) | (go_at_call 26;with_reducible refine Behind.call (j2 _))))
 refine wpQuiet_nil ?_
 rintro _ ⟨m',rfl⟩
 obtain⟨V8,hb1⟩:=m'
 dsimp only
 clear kX0 kX1 kY0 kY1 kP0 kP1 kQ0 kQ1
 replace X:=X.keep hb1
 replace Y:=Y.keep hb1
 replace P:=P.keep hb1
 replace Q:=Q.keep hb1
 replace HB:=later HB hb1
 clear hb1
 obtain⟨qX0,qX1,qX2,qX3,qX4⟩:=id X;obtain⟨qY0,qY1,qY2,qY3,qY4⟩:=id Y;obtain⟨qP0,qP1,qP2,qP3,qP4⟩:=id P;obtain⟨qQ0,qQ1,qQ2,qQ3,qQ4⟩:=id Q
 go_upto_region 12 with fail
 go_upto_region 13 with (go_at_call 20;(with_reducible refine (c4 _).mono ?_);rintro _ V9 ⟨rfl,hb1⟩;replace X:=X.keep hb1;replace Y:=Y.keep hb1;replace P:=P.keep hb1;replace Q:=Q.keep hb1;replace HB:=later HB hb1;clear hb1;clear qX0 qX1 qX2 qX3 qX4 qY0 qY1 qY2 qY3 qY4 qP0 qP1 qP2 qP3 qP4 qQ0 qQ1 qQ2 qQ3 qQ4;obtain⟨qX0,qX1,qX2,qX3,qX4⟩:=id X;obtain⟨qY0,qY1,qY2,qY3,qY4⟩:=id Y;obtain⟨qP0,qP1,qP2,qP3,qP4⟩:=id P;obtain⟨qQ0,qQ1,qQ2,qQ3,qQ4⟩:=id Q)
 clear qX0 qX1 qX2 qX3 qX4 qY0 qY1 qY2 qY3 qY4 qP0 qP1 qP2 qP3 qP4 qQ0 qQ1 qQ2 qQ3 qQ4
 have nXK:Hid ((w.heap.size)<V9.heap.size):=X.lt
 have nYK:Hid ((w.heap.size+1)<V9.heap.size):=Y.lt
 have nPK:Hid (bP<V9.heap.size):=P.lt
 have nQK:Hid (bQ<V9.heap.size):=Q.lt
 replace X:=X.keep (grewW V9 (.cells #[.int .i64 p,.int .i64 q] 23))
 replace Y:=Y.keep (grewW V9 (.cells #[.int .i64 p,.int .i64 q] 23))
 replace P:=P.keep (grewW V9 (.cells #[.int .i64 p,.int .i64 q] 23))
 replace Q:=Q.keep (grewW V9 (.cells #[.int .i64 p,.int .i64 q] 23))
 replace HB:=later HB (grewW V9 (.cells #[.int .i64 p,.int .i64 q] 23))
 have K:=has2_new V9 (.int .i64 p) (.int .i64 q) 23
 generalize V9.alloc (.cells #[.int .i64 p,.int .i64 q] 23)=V10 at *
 generalize V9.heap.size=bK at *
 obtain⟨qX0,qX1,qX2,qX3,qX4⟩:=id X;obtain⟨qY0,qY1,qY2,qY3,qY4⟩:=id Y;obtain⟨qP0,qP1,qP2,qP3,qP4⟩:=id P;obtain⟨qQ0,qQ1,qQ2,qQ3,qQ4⟩:=id Q;obtain⟨qK0,qK1,qK2,qK3,qK4⟩:=id K
 go_wp2_with fail
 go_ret
 exact⟨by simp,HB⟩
set_option maxHeartbeats 8000000 in
set_option maxRecDepth 4000 in
theorem back_yo (aN aD bD x y s t:Int) (bN:Int) (a1 a2 b1 b2 u1 u2 v1 v2:Nat)
   (r1:∀W,Calls Try.prog 13 #[.agg #[.int .i64 aN,.int .i64 aD]] W fun r w'=>r=.returned (.bool true)∧Below W.heap.size W w')
   (r2:∀W,Calls Try.prog 13 #[.agg #[.int .i64 bN,.int .i64 bD]] W fun r w'=>r=.returned (.bool true)∧Below W.heap.size W w')
   (c1:∀W,Calls Try.prog 14 #[.agg #[.int .i64 aN,.int .i64 aD],.agg #[.int .i64 bN,.int .i64 bD]] W fun r w'=>r=.returned (.tuple #[.agg #[.int .i64 x,.int .i64 y],.int .i64 0])∧Below W.heap.size W w')
   (h1:∀W,Calls Try.prog 27 #[.agg #[.int .i64 aN,.int .i64 aD]] W fun r w'=>r=.returned (.agg #[.float .f64 a1,.float .f64 a2])∧Below W.heap.size W w')
   (h2:∀W,Calls Try.prog 27 #[.agg #[.int .i64 bN,.int .i64 bD]] W fun r w'=>r=.returned (.agg #[.float .f64 b1,.float .f64 b2])∧Below W.heap.size W w')
   (c2:∀W,Calls Try.prog 16 #[.agg #[.int .i64 x,.int .i64 y],.agg #[.int .i64 bN,.int .i64 bD]] W fun r w'=>r=.returned (.tuple #[.agg #[.int .i64 aN,.int .i64 aD],.int .i64 0])∧Below W.heap.size W w')
   (h3:∀W,Calls Try.prog 27 #[.agg #[.int .i64 x,.int .i64 y]] W fun r w'=>r=.returned (.agg #[.float .f64 u1,.float .f64 u2])∧Below W.heap.size W w')
   (i1:∀W,Calls Try.prog 28 #[.agg #[.float .f64 a1,.float .f64 a2],.agg #[.float .f64 b1,.float .f64 b2]] W fun r w'=>r=.returned (.agg #[.float .f64 v1,.float .f64 v2])∧Below W.heap.size W w')
   (j1:∀W,Calls Try.prog 26 #[.agg #[.float .f64 u1,.float .f64 u2],.agg #[.float .f64 v1,.float .f64 v2]] W fun r w'=>r=.returned (.bool true)∧Below W.heap.size W w')
   (c3:∀W,Calls Try.prog 18 #[.agg #[.int .i64 aN,.int .i64 aD],.agg #[.int .i64 bN,.int .i64 bD]] W fun r w'=>r=.returned (.tuple #[.agg #[.int .i64 s,.int .i64 t],.int .i64 3])∧Below W.heap.size W w') (w:World) :
   Calls Try.prog 6 #[.agg #[.int .i64 aN,.int .i64 aD],.agg #[.int .i64 bN,.int .i64 bD]] w fun r w'=>r=.returned (.bool true)∧Below w.heap.size w w':=by
 have HB:Below w.heap.size w ((w.alloc (.cells #[.int .i64 aN,.int .i64 aD] 23)).alloc (.cells #[.int .i64 bN,.int .i64 bD] 23)):=by go_grown
 have X:Has2 ((w.alloc (.cells #[.int .i64 aN,.int .i64 aD] 23)).alloc (.cells #[.int .i64 bN,.int .i64 bD] 23)) (w.heap.size) (.int .i64 aN) (.int .i64 aD):=⟨by go_simp,by go_simp,by go_simp,by go_simp,by go_size⟩
 have Y:Has2 ((w.alloc (.cells #[.int .i64 aN,.int .i64 aD] 23)).alloc (.cells #[.int .i64 bN,.int .i64 bD] 23)) (w.heap.size+1) (.int .i64 bN) (.int .i64 bD):=⟨by go_simp,by go_simp,by go_simp,by go_simp,by go_size⟩
 go_enter Try.func6,Try.ntmps6
 go_upto_region 1 with fail
 generalize ((w.alloc (.cells #[.int .i64 aN,.int .i64 aD] 23)).alloc (.cells #[.int .i64 bN,.int .i64 bD] 23))=V9 at *
 obtain⟨pX0,pX1,pX2,pX3,pX4⟩:=id X;obtain⟨pY0,pY1,pY2,pY3,pY4⟩:=id Y
 go_upto_region 3 with (first | (go_at_call_of 13 (Value.agg #[.int .i64 aN,.int .i64 aD]);(with_reducible refine (r1 _).mono ?_);rintro _ W1 ⟨rfl,hb1⟩;replace X:=X.keep hb1;replace Y:=Y.keep hb1;replace HB:=later HB hb1;clear hb1;obtain⟨p1X0,p1X1,p1X2,p1X3,p1X4⟩:=id X;obtain⟨p1Y0,p1Y1,p1Y2,p1Y3,p1Y4⟩:=id Y) | (go_at_call_of 13 (Value.agg #[.int .i64 bN,.int .i64 bD]);(with_reducible refine (r2 _).mono ?_);rintro _ W2 ⟨rfl,hb1⟩;replace X:=X.keep hb1;replace Y:=Y.keep hb1;replace HB:=later HB hb1;clear hb1;obtain⟨p2X0,p2X1,p2X2,p2X3,p2X4⟩:=id X;obtain⟨p2Y0,p2Y1,p2Y2,p2Y3,p2Y4⟩:=id Y))
 clear pX0 pX1 pX2 pX3 pX4 pY0 pY1 pY2 pY3 pY4
 clear p1X0 p1X1 p1X2 p1X3 p1X4 p1Y0 p1Y1 p1Y2 p1Y3 p1Y4
 clear p2X0 p2X1 p2X2 p2X3 p2X4 p2Y0 p2Y1 p2Y2 p2Y3 p2Y4
 generalize W2=V0 at *
 obtain⟨qX0,qX1,qX2,qX3,qX4⟩:=id X;obtain⟨qY0,qY1,qY2,qY3,qY4⟩:=id Y
 go_upto_region 4 with (go_at_call 14;(with_reducible refine (c1 _).mono ?_);rintro _ V1 ⟨rfl,hb1⟩;replace X:=X.keep hb1;replace Y:=Y.keep hb1;replace HB:=later HB hb1;clear hb1;clear qX0 qX1 qX2 qX3 qX4 qY0 qY1 qY2 qY3 qY4;obtain⟨qX0,qX1,qX2,qX3,qX4⟩:=id X;obtain⟨qY0,qY1,qY2,qY3,qY4⟩:=id Y)
 clear qX0 qX1 qX2 qX3 qX4 qY0 qY1 qY2 qY3 qY4
 have nXP:Hid ((w.heap.size)<V1.heap.size):=X.lt
 have nYP:Hid ((w.heap.size+1)<V1.heap.size):=Y.lt
 replace X:=X.keep (grewW V1 (.cells #[.int .i64 x,.int .i64 y] 23))
 replace Y:=Y.keep (grewW V1 (.cells #[.int .i64 x,.int .i64 y] 23))
 replace HB:=later HB (grewW V1 (.cells #[.int .i64 x,.int .i64 y] 23))
 have P:=has2_new V1 (.int .i64 x) (.int .i64 y) 23
 generalize V1.alloc (.cells #[.int .i64 x,.int .i64 y] 23)=V2 at *
 generalize V1.heap.size=bP at *
 obtain⟨qX0,qX1,qX2,qX3,qX4⟩:=id X;obtain⟨qY0,qY1,qY2,qY3,qY4⟩:=id Y;obtain⟨qP0,qP1,qP2,qP3,qP4⟩:=id P
 go_upto_region 5 with fail
 go_upto_region 6 with (go_at_call 16;(with_reducible refine (c2 _).mono ?_);rintro _ V3 ⟨rfl,hb1⟩;replace X:=X.keep hb1;replace Y:=Y.keep hb1;replace P:=P.keep hb1;replace HB:=later HB hb1;clear hb1;clear qX0 qX1 qX2 qX3 qX4 qY0 qY1 qY2 qY3 qY4 qP0 qP1 qP2 qP3 qP4;obtain⟨qX0,qX1,qX2,qX3,qX4⟩:=id X;obtain⟨qY0,qY1,qY2,qY3,qY4⟩:=id Y;obtain⟨qP0,qP1,qP2,qP3,qP4⟩:=id P)
 clear qX0 qX1 qX2 qX3 qX4 qY0 qY1 qY2 qY3 qY4 qP0 qP1 qP2 qP3 qP4
 have nXQ:Hid ((w.heap.size)<V3.heap.size):=X.lt
 have nYQ:Hid ((w.heap.size+1)<V3.heap.size):=Y.lt
 have nPQ:Hid (bP<V3.heap.size):=P.lt
 replace X:=X.keep (grewW V3 (.cells #[.int .i64 aN,.int .i64 aD] 23))
 replace Y:=Y.keep (grewW V3 (.cells #[.int .i64 aN,.int .i64 aD] 23))
 replace P:=P.keep (grewW V3 (.cells #[.int .i64 aN,.int .i64 aD] 23))
 replace HB:=later HB (grewW V3 (.cells #[.int .i64 aN,.int .i64 aD] 23))
 have Q:=has2_new V3 (.int .i64 aN) (.int .i64 aD) 23
 generalize V3.alloc (.cells #[.int .i64 aN,.int .i64 aD] 23)=V4 at *
 generalize V3.heap.size=bQ at *
 have kX0:=fun n:Behind V4=>n.cell X.1 X.2.2.2.2
 have kX1:=fun n:Behind V4=>n.cell X.2.1 X.2.2.2.2
 have kY0:=fun n:Behind V4=>n.cell Y.1 Y.2.2.2.2
 have kY1:=fun n:Behind V4=>n.cell Y.2.1 Y.2.2.2.2
 have kP0:=fun n:Behind V4=>n.cell P.1 P.2.2.2.2
 have kP1:=fun n:Behind V4=>n.cell P.2.1 P.2.2.2.2
 have kQ0:=fun n:Behind V4=>n.cell Q.1 Q.2.2.2.2
 have kQ1:=fun n:Behind V4=>n.cell Q.2.1 Q.2.2.2.2
 refine region_behind (by kernel_rfl) (by kernel_rfl) ?_
 repeat (go_big_quiet_step (first | (go_at_call 27;with_reducible refine Behind.call (h1 _)) | (go_at_call 27;with_reducible refine Behind.call (h2 _)) | (go_at_call 27;with_reducible refine Behind.call (h3 _)) | (go_at_call 28;with_reducible refine Behind.call (i1 _)) | (go_at_call 26;with_reducible refine Behind.call (j1 _))))
 refine wpQuiet_nil ?_
 rintro _ ⟨m',rfl⟩
 obtain⟨V5,hb1⟩:=m'
 dsimp only
 clear kX0 kX1 kY0 kY1 kP0 kP1 kQ0 kQ1
 replace X:=X.keep hb1
 replace Y:=Y.keep hb1
 replace P:=P.keep hb1
 replace Q:=Q.keep hb1
 replace HB:=later HB hb1
 clear hb1
 obtain⟨qX0,qX1,qX2,qX3,qX4⟩:=id X;obtain⟨qY0,qY1,qY2,qY3,qY4⟩:=id Y;obtain⟨qP0,qP1,qP2,qP3,qP4⟩:=id P;obtain⟨qQ0,qQ1,qQ2,qQ3,qQ4⟩:=id Q
 go_upto_region 8 with fail
 go_upto_region 9 with (go_at_call 18;(with_reducible refine (c3 _).mono ?_);rintro _ V6 ⟨rfl,hb1⟩;replace X:=X.keep hb1;replace Y:=Y.keep hb1;replace P:=P.keep hb1;replace Q:=Q.keep hb1;replace HB:=later HB hb1;clear hb1;clear qX0 qX1 qX2 qX3 qX4 qY0 qY1 qY2 qY3 qY4 qP0 qP1 qP2 qP3 qP4 qQ0 qQ1 qQ2 qQ3 qQ4;obtain⟨qX0,qX1,qX2,qX3,qX4⟩:=id X;obtain⟨qY0,qY1,qY2,qY3,qY4⟩:=id Y;obtain⟨qP0,qP1,qP2,qP3,qP4⟩:=id P;obtain⟨qQ0,qQ1,qQ2,qQ3,qQ4⟩:=id Q)
 clear qX0 qX1 qX2 qX3 qX4 qY0 qY1 qY2 qY3 qY4 qP0 qP1 qP2 qP3 qP4 qQ0 qQ1 qQ2 qQ3 qQ4
 replace X:=X.far2 (c:=bP) (by have:=nXP.out;omega) (.int .i64 s) (.int .i64 t)
 replace Y:=Y.far2 (c:=bP) (by have:=nYP.out;omega) (.int .i64 s) (.int .i64 t)
 replace Q:=Q.far2 (c:=bP) (by have:=nPQ.out;omega) (.int .i64 s) (.int .i64 t)
 replace P:=P.put (.int .i64 s) (.int .i64 t)
 replace HB:Below w.heap.size w ((V6.setCell ⟨bP,0,none⟩ (.int .i64 s)).setCell ⟨bP,1,none⟩ (.int .i64 t)):=(HB.setCell (by simp;have:=nXP.out;omega) _).setCell (by simp;have:=nXP.out;omega) _
 generalize ((V6.setCell ⟨bP,0,none⟩ (.int .i64 s)).setCell ⟨bP,1,none⟩ (.int .i64 t))=V7 at *
 obtain⟨qX0,qX1,qX2,qX3,qX4⟩:=id X;obtain⟨qY0,qY1,qY2,qY3,qY4⟩:=id Y;obtain⟨qP0,qP1,qP2,qP3,qP4⟩:=id P;obtain⟨qQ0,qQ1,qQ2,qQ3,qQ4⟩:=id Q
 go_wp2_with fail
 go_ret
 exact⟨by simp,HB⟩
set_option maxHeartbeats 8000000 in
set_option maxRecDepth 4000 in
theorem back_nq (aN aD bD x y s t:Int) (bN:Int) (e:Int) (he:¬e=0) (hz:¬bN=0) (a1 a2 b1 b2 m1 m2 n1 n2:Nat)
   (r1:∀W,Calls Try.prog 13 #[.agg #[.int .i64 aN,.int .i64 aD]] W fun r w'=>r=.returned (.bool true)∧Below W.heap.size W w')
   (r2:∀W,Calls Try.prog 13 #[.agg #[.int .i64 bN,.int .i64 bD]] W fun r w'=>r=.returned (.bool true)∧Below W.heap.size W w')
   (c1:∀W,Calls Try.prog 14 #[.agg #[.int .i64 aN,.int .i64 aD],.agg #[.int .i64 bN,.int .i64 bD]] W fun r w'=>r=.returned (.tuple #[.agg #[.int .i64 x,.int .i64 y],.int .i64 e])∧Below W.heap.size W w')
   (h1:∀W,Calls Try.prog 27 #[.agg #[.int .i64 aN,.int .i64 aD]] W fun r w'=>r=.returned (.agg #[.float .f64 a1,.float .f64 a2])∧Below W.heap.size W w')
   (h2:∀W,Calls Try.prog 27 #[.agg #[.int .i64 bN,.int .i64 bD]] W fun r w'=>r=.returned (.agg #[.float .f64 b1,.float .f64 b2])∧Below W.heap.size W w')
   (c3:∀W,Calls Try.prog 18 #[.agg #[.int .i64 aN,.int .i64 aD],.agg #[.int .i64 bN,.int .i64 bD]] W fun r w'=>r=.returned (.tuple #[.agg #[.int .i64 s,.int .i64 t],.int .i64 0])∧Below W.heap.size W w')
   (h4:∀W,Calls Try.prog 27 #[.agg #[.int .i64 s,.int .i64 t]] W fun r w'=>r=.returned (.agg #[.float .f64 m1,.float .f64 m2])∧Below W.heap.size W w')
   (i2:∀W,Calls Try.prog 29 #[.agg #[.float .f64 a1,.float .f64 a2],.agg #[.float .f64 b1,.float .f64 b2]] W fun r w'=>r=.returned (.agg #[.float .f64 n1,.float .f64 n2])∧Below W.heap.size W w')
   (j2:∀W,Calls Try.prog 26 #[.agg #[.float .f64 m1,.float .f64 m2],.agg #[.float .f64 n1,.float .f64 n2]] W fun r w'=>r=.returned (.bool true)∧Below W.heap.size W w')
   (c4:∀W,Calls Try.prog 20 #[.agg #[.int .i64 s,.int .i64 t],.agg #[.int .i64 bN,.int .i64 bD]] W fun r w'=>r=.returned (.tuple #[.agg #[.int .i64 aN,.int .i64 aD],.int .i64 0])∧Below W.heap.size W w') (w:World) :
   Calls Try.prog 6 #[.agg #[.int .i64 aN,.int .i64 aD],.agg #[.int .i64 bN,.int .i64 bD]] w fun r w'=>r=.returned (.bool true)∧Below w.heap.size w w':=by
 have HB:Below w.heap.size w ((w.alloc (.cells #[.int .i64 aN,.int .i64 aD] 23)).alloc (.cells #[.int .i64 bN,.int .i64 bD] 23)):=by go_grown
 have X:Has2 ((w.alloc (.cells #[.int .i64 aN,.int .i64 aD] 23)).alloc (.cells #[.int .i64 bN,.int .i64 bD] 23)) (w.heap.size) (.int .i64 aN) (.int .i64 aD):=⟨by go_simp,by go_simp,by go_simp,by go_simp,by go_size⟩
 have Y:Has2 ((w.alloc (.cells #[.int .i64 aN,.int .i64 aD] 23)).alloc (.cells #[.int .i64 bN,.int .i64 bD] 23)) (w.heap.size+1) (.int .i64 bN) (.int .i64 bD):=⟨by go_simp,by go_simp,by go_simp,by go_simp,by go_size⟩
 go_enter Try.func6,Try.ntmps6
 go_upto_region 1 with fail
 generalize ((w.alloc (.cells #[.int .i64 aN,.int .i64 aD] 23)).alloc (.cells #[.int .i64 bN,.int .i64 bD] 23))=V9 at *
 obtain⟨pX0,pX1,pX2,pX3,pX4⟩:=id X;obtain⟨pY0,pY1,pY2,pY3,pY4⟩:=id Y
 go_upto_region 3 with (first | (go_at_call_of 13 (Value.agg #[.int .i64 aN,.int .i64 aD]);(with_reducible refine (r1 _).mono ?_);rintro _ W1 ⟨rfl,hb1⟩;replace X:=X.keep hb1;replace Y:=Y.keep hb1;replace HB:=later HB hb1;clear hb1;obtain⟨p1X0,p1X1,p1X2,p1X3,p1X4⟩:=id X;obtain⟨p1Y0,p1Y1,p1Y2,p1Y3,p1Y4⟩:=id Y) | (go_at_call_of 13 (Value.agg #[.int .i64 bN,.int .i64 bD]);(with_reducible refine (r2 _).mono ?_);rintro _ W2 ⟨rfl,hb1⟩;replace X:=X.keep hb1;replace Y:=Y.keep hb1;replace HB:=later HB hb1;clear hb1;obtain⟨p2X0,p2X1,p2X2,p2X3,p2X4⟩:=id X;obtain⟨p2Y0,p2Y1,p2Y2,p2Y3,p2Y4⟩:=id Y))
 clear pX0 pX1 pX2 pX3 pX4 pY0 pY1 pY2 pY3 pY4
 clear p1X0 p1X1 p1X2 p1X3 p1X4 p1Y0 p1Y1 p1Y2 p1Y3 p1Y4
 clear p2X0 p2X1 p2X2 p2X3 p2X4 p2Y0 p2Y1 p2Y2 p2Y3 p2Y4
 generalize W2=V0 at *
 obtain⟨qX0,qX1,qX2,qX3,qX4⟩:=id X;obtain⟨qY0,qY1,qY2,qY3,qY4⟩:=id Y
 go_upto_region 4 with (go_at_call 14;(with_reducible refine (c1 _).mono ?_);rintro _ V1 ⟨rfl,hb1⟩;replace X:=X.keep hb1;replace Y:=Y.keep hb1;replace HB:=later HB hb1;clear hb1;clear qX0 qX1 qX2 qX3 qX4 qY0 qY1 qY2 qY3 qY4;obtain⟨qX0,qX1,qX2,qX3,qX4⟩:=id X;obtain⟨qY0,qY1,qY2,qY3,qY4⟩:=id Y)
 clear qX0 qX1 qX2 qX3 qX4 qY0 qY1 qY2 qY3 qY4
 have nXP:Hid ((w.heap.size)<V1.heap.size):=X.lt
 have nYP:Hid ((w.heap.size+1)<V1.heap.size):=Y.lt
 replace X:=X.keep (grewW V1 (.cells #[.int .i64 x,.int .i64 y] 23))
 replace Y:=Y.keep (grewW V1 (.cells #[.int .i64 x,.int .i64 y] 23))
 replace HB:=later HB (grewW V1 (.cells #[.int .i64 x,.int .i64 y] 23))
 have P:=has2_new V1 (.int .i64 x) (.int .i64 y) 23
 generalize V1.alloc (.cells #[.int .i64 x,.int .i64 y] 23)=V2 at *
 generalize V1.heap.size=bP at *
 obtain⟨qX0,qX1,qX2,qX3,qX4⟩:=id X;obtain⟨qY0,qY1,qY2,qY3,qY4⟩:=id Y;obtain⟨qP0,qP1,qP2,qP3,qP4⟩:=id P
 go_upto_region 8 with fail
 go_upto_region 9 with (go_at_call 18;(with_reducible refine (c3 _).mono ?_);rintro _ V3 ⟨rfl,hb1⟩;replace X:=X.keep hb1;replace Y:=Y.keep hb1;replace P:=P.keep hb1;replace HB:=later HB hb1;clear hb1;clear qX0 qX1 qX2 qX3 qX4 qY0 qY1 qY2 qY3 qY4 qP0 qP1 qP2 qP3 qP4;obtain⟨qX0,qX1,qX2,qX3,qX4⟩:=id X;obtain⟨qY0,qY1,qY2,qY3,qY4⟩:=id Y;obtain⟨qP0,qP1,qP2,qP3,qP4⟩:=id P)
 clear qX0 qX1 qX2 qX3 qX4 qY0 qY1 qY2 qY3 qY4 qP0 qP1 qP2 qP3 qP4
 replace X:=X.far2 (c:=bP) (by have:=nXP.out;omega) (.int .i64 s) (.int .i64 t)
 replace Y:=Y.far2 (c:=bP) (by have:=nYP.out;omega) (.int .i64 s) (.int .i64 t)
 replace P:=P.put (.int .i64 s) (.int .i64 t)
 replace HB:Below w.heap.size w ((V3.setCell ⟨bP,0,none⟩ (.int .i64 s)).setCell ⟨bP,1,none⟩ (.int .i64 t)):=(HB.setCell (by simp;have:=nXP.out;omega) _).setCell (by simp;have:=nXP.out;omega) _
 generalize ((V3.setCell ⟨bP,0,none⟩ (.int .i64 s)).setCell ⟨bP,1,none⟩ (.int .i64 t))=V4 at *
 obtain⟨qX0,qX1,qX2,qX3,qX4⟩:=id X;obtain⟨qY0,qY1,qY2,qY3,qY4⟩:=id Y;obtain⟨qP0,qP1,qP2,qP3,qP4⟩:=id P
 go_upto_region 10 with fail
 clear qX0 qX1 qX2 qX3 qX4 qY0 qY1 qY2 qY3 qY4 qP0 qP1 qP2 qP3 qP4
 have kX0:=fun n:Behind V4=>n.cell X.1 X.2.2.2.2
 have kX1:=fun n:Behind V4=>n.cell X.2.1 X.2.2.2.2
 have kY0:=fun n:Behind V4=>n.cell Y.1 Y.2.2.2.2
 have kY1:=fun n:Behind V4=>n.cell Y.2.1 Y.2.2.2.2
 have kP0:=fun n:Behind V4=>n.cell P.1 P.2.2.2.2
 have kP1:=fun n:Behind V4=>n.cell P.2.1 P.2.2.2.2
 refine region_behind (by kernel_rfl) (by kernel_rfl) ?_
 repeat (go_big_quiet_step (first | (go_at_call 27;with_reducible refine Behind.call (h1 _)) | (go_at_call 27;with_reducible refine Behind.call (h2 _)) | (go_at_call 27;with_reducible refine Behind.call (h4 _)) | (go_at_call 29;with_reducible refine Behind.call (i2 _)) | (go_at_call 26;with_reducible refine Behind.call (j2 _))))
 refine wpQuiet_nil ?_
 rintro _ ⟨m',rfl⟩
 obtain⟨V5,hb1⟩:=m'
 dsimp only
 clear kX0 kX1 kY0 kY1 kP0 kP1
 replace X:=X.keep hb1
 replace Y:=Y.keep hb1
 replace P:=P.keep hb1
 replace HB:=later HB hb1
 clear hb1
 obtain⟨qX0,qX1,qX2,qX3,qX4⟩:=id X;obtain⟨qY0,qY1,qY2,qY3,qY4⟩:=id Y;obtain⟨qP0,qP1,qP2,qP3,qP4⟩:=id P
 go_upto_region 12 with fail
 go_upto_region 13 with (go_at_call 20;(with_reducible refine (c4 _).mono ?_);rintro _ V6 ⟨rfl,hb1⟩;replace X:=X.keep hb1;replace Y:=Y.keep hb1;replace P:=P.keep hb1;replace HB:=later HB hb1;clear hb1;clear qX0 qX1 qX2 qX3 qX4 qY0 qY1 qY2 qY3 qY4 qP0 qP1 qP2 qP3 qP4;obtain⟨qX0,qX1,qX2,qX3,qX4⟩:=id X;obtain⟨qY0,qY1,qY2,qY3,qY4⟩:=id Y;obtain⟨qP0,qP1,qP2,qP3,qP4⟩:=id P)
 clear qX0 qX1 qX2 qX3 qX4 qY0 qY1 qY2 qY3 qY4 qP0 qP1 qP2 qP3 qP4
 have nXK:Hid ((w.heap.size)<V6.heap.size):=X.lt
 have nYK:Hid ((w.heap.size+1)<V6.heap.size):=Y.lt
 have nPK:Hid (bP<V6.heap.size):=P.lt
 replace X:=X.keep (grewW V6 (.cells #[.int .i64 aN,.int .i64 aD] 23))
 replace Y:=Y.keep (grewW V6 (.cells #[.int .i64 aN,.int .i64 aD] 23))
 replace P:=P.keep (grewW V6 (.cells #[.int .i64 aN,.int .i64 aD] 23))
 replace HB:=later HB (grewW V6 (.cells #[.int .i64 aN,.int .i64 aD] 23))
 have K:=has2_new V6 (.int .i64 aN) (.int .i64 aD) 23
 generalize V6.alloc (.cells #[.int .i64 aN,.int .i64 aD] 23)=V7 at *
 generalize V6.heap.size=bK at *
 obtain⟨qX0,qX1,qX2,qX3,qX4⟩:=id X;obtain⟨qY0,qY1,qY2,qY3,qY4⟩:=id Y;obtain⟨qP0,qP1,qP2,qP3,qP4⟩:=id P;obtain⟨qK0,qK1,qK2,qK3,qK4⟩:=id K
 have hz':(bN != 0)=true:=by simpa using hz
 go_wp2_with fail
 go_ret
 exact⟨by simp,HB⟩
set_option maxHeartbeats 8000000 in
set_option maxRecDepth 4000 in
theorem back_nz (aN aD bD x y s t:Int) (e:Int) (he:¬e=0) (p q i:Int) (a1 a2 b1 b2 m1 m2 n1 n2:Nat)
   (r1:∀W,Calls Try.prog 13 #[.agg #[.int .i64 aN,.int .i64 aD]] W fun r w'=>r=.returned (.bool true)∧Below W.heap.size W w')
   (r2:∀W,Calls Try.prog 13 #[.agg #[.int .i64 0,.int .i64 bD]] W fun r w'=>r=.returned (.bool true)∧Below W.heap.size W w')
   (c1:∀W,Calls Try.prog 14 #[.agg #[.int .i64 aN,.int .i64 aD],.agg #[.int .i64 0,.int .i64 bD]] W fun r w'=>r=.returned (.tuple #[.agg #[.int .i64 x,.int .i64 y],.int .i64 e])∧Below W.heap.size W w')
   (h1:∀W,Calls Try.prog 27 #[.agg #[.int .i64 aN,.int .i64 aD]] W fun r w'=>r=.returned (.agg #[.float .f64 a1,.float .f64 a2])∧Below W.heap.size W w')
   (h2:∀W,Calls Try.prog 27 #[.agg #[.int .i64 0,.int .i64 bD]] W fun r w'=>r=.returned (.agg #[.float .f64 b1,.float .f64 b2])∧Below W.heap.size W w')
   (c3:∀W,Calls Try.prog 18 #[.agg #[.int .i64 aN,.int .i64 aD],.agg #[.int .i64 0,.int .i64 bD]] W fun r w'=>r=.returned (.tuple #[.agg #[.int .i64 s,.int .i64 t],.int .i64 0])∧Below W.heap.size W w')
   (h4:∀W,Calls Try.prog 27 #[.agg #[.int .i64 s,.int .i64 t]] W fun r w'=>r=.returned (.agg #[.float .f64 m1,.float .f64 m2])∧Below W.heap.size W w')
   (i2:∀W,Calls Try.prog 29 #[.agg #[.float .f64 a1,.float .f64 a2],.agg #[.float .f64 b1,.float .f64 b2]] W fun r w'=>r=.returned (.agg #[.float .f64 n1,.float .f64 n2])∧Below W.heap.size W w')
   (j2:∀W,Calls Try.prog 26 #[.agg #[.float .f64 m1,.float .f64 m2],.agg #[.float .f64 n1,.float .f64 n2]] W fun r w'=>r=.returned (.bool true)∧Below W.heap.size W w')
   (c4:∀W,Calls Try.prog 20 #[.agg #[.int .i64 s,.int .i64 t],.agg #[.int .i64 0,.int .i64 bD]] W fun r w'=>r=.returned (.tuple #[.agg #[.int .i64 p,.int .i64 q],.int .i64 i])∧Below W.heap.size W w') (w:World) :
   Calls Try.prog 6 #[.agg #[.int .i64 aN,.int .i64 aD],.agg #[.int .i64 0,.int .i64 bD]] w fun r w'=>r=.returned (.bool true)∧Below w.heap.size w w':=by
 have HB:Below w.heap.size w ((w.alloc (.cells #[.int .i64 aN,.int .i64 aD] 23)).alloc (.cells #[.int .i64 0,.int .i64 bD] 23)):=by go_grown
 have X:Has2 ((w.alloc (.cells #[.int .i64 aN,.int .i64 aD] 23)).alloc (.cells #[.int .i64 0,.int .i64 bD] 23)) (w.heap.size) (.int .i64 aN) (.int .i64 aD):=⟨by go_simp,by go_simp,by go_simp,by go_simp,by go_size⟩
 have Y:Has2 ((w.alloc (.cells #[.int .i64 aN,.int .i64 aD] 23)).alloc (.cells #[.int .i64 0,.int .i64 bD] 23)) (w.heap.size+1) (.int .i64 0) (.int .i64 bD):=⟨by go_simp,by go_simp,by go_simp,by go_simp,by go_size⟩
 go_enter Try.func6,Try.ntmps6
 go_upto_region 1 with fail
 generalize ((w.alloc (.cells #[.int .i64 aN,.int .i64 aD] 23)).alloc (.cells #[.int .i64 0,.int .i64 bD] 23))=V9 at *
 obtain⟨pX0,pX1,pX2,pX3,pX4⟩:=id X;obtain⟨pY0,pY1,pY2,pY3,pY4⟩:=id Y
 go_upto_region 3 with (first | (go_at_call_of 13 (Value.agg #[.int .i64 aN,.int .i64 aD]);(with_reducible refine (r1 _).mono ?_);rintro _ W1 ⟨rfl,hb1⟩;replace X:=X.keep hb1;replace Y:=Y.keep hb1;replace HB:=later HB hb1;clear hb1;obtain⟨p1X0,p1X1,p1X2,p1X3,p1X4⟩:=id X;obtain⟨p1Y0,p1Y1,p1Y2,p1Y3,p1Y4⟩:=id Y) | (go_at_call_of 13 (Value.agg #[.int .i64 0,.int .i64 bD]);(with_reducible refine (r2 _).mono ?_);rintro _ W2 ⟨rfl,hb1⟩;replace X:=X.keep hb1;replace Y:=Y.keep hb1;replace HB:=later HB hb1;clear hb1;obtain⟨p2X0,p2X1,p2X2,p2X3,p2X4⟩:=id X;obtain⟨p2Y0,p2Y1,p2Y2,p2Y3,p2Y4⟩:=id Y))
 clear pX0 pX1 pX2 pX3 pX4 pY0 pY1 pY2 pY3 pY4
 clear p1X0 p1X1 p1X2 p1X3 p1X4 p1Y0 p1Y1 p1Y2 p1Y3 p1Y4
 clear p2X0 p2X1 p2X2 p2X3 p2X4 p2Y0 p2Y1 p2Y2 p2Y3 p2Y4
 generalize W2=V0 at *
 obtain⟨qX0,qX1,qX2,qX3,qX4⟩:=id X;obtain⟨qY0,qY1,qY2,qY3,qY4⟩:=id Y
 go_upto_region 4 with (go_at_call 14;(with_reducible refine (c1 _).mono ?_);rintro _ V1 ⟨rfl,hb1⟩;replace X:=X.keep hb1;replace Y:=Y.keep hb1;replace HB:=later HB hb1;clear hb1;clear qX0 qX1 qX2 qX3 qX4 qY0 qY1 qY2 qY3 qY4;obtain⟨qX0,qX1,qX2,qX3,qX4⟩:=id X;obtain⟨qY0,qY1,qY2,qY3,qY4⟩:=id Y)
 clear qX0 qX1 qX2 qX3 qX4 qY0 qY1 qY2 qY3 qY4
 have nXP:Hid ((w.heap.size)<V1.heap.size):=X.lt
 have nYP:Hid ((w.heap.size+1)<V1.heap.size):=Y.lt
 replace X:=X.keep (grewW V1 (.cells #[.int .i64 x,.int .i64 y] 23))
 replace Y:=Y.keep (grewW V1 (.cells #[.int .i64 x,.int .i64 y] 23))
 replace HB:=later HB (grewW V1 (.cells #[.int .i64 x,.int .i64 y] 23))
 have P:=has2_new V1 (.int .i64 x) (.int .i64 y) 23
 generalize V1.alloc (.cells #[.int .i64 x,.int .i64 y] 23)=V2 at *
 generalize V1.heap.size=bP at *
 obtain⟨qX0,qX1,qX2,qX3,qX4⟩:=id X;obtain⟨qY0,qY1,qY2,qY3,qY4⟩:=id Y;obtain⟨qP0,qP1,qP2,qP3,qP4⟩:=id P
 go_upto_region 8 with fail
 go_upto_region 9 with (go_at_call 18;(with_reducible refine (c3 _).mono ?_);rintro _ V3 ⟨rfl,hb1⟩;replace X:=X.keep hb1;replace Y:=Y.keep hb1;replace P:=P.keep hb1;replace HB:=later HB hb1;clear hb1;clear qX0 qX1 qX2 qX3 qX4 qY0 qY1 qY2 qY3 qY4 qP0 qP1 qP2 qP3 qP4;obtain⟨qX0,qX1,qX2,qX3,qX4⟩:=id X;obtain⟨qY0,qY1,qY2,qY3,qY4⟩:=id Y;obtain⟨qP0,qP1,qP2,qP3,qP4⟩:=id P)
 clear qX0 qX1 qX2 qX3 qX4 qY0 qY1 qY2 qY3 qY4 qP0 qP1 qP2 qP3 qP4
 replace X:=X.far2 (c:=bP) (by have:=nXP.out;omega) (.int .i64 s) (.int .i64 t)
 replace Y:=Y.far2 (c:=bP) (by have:=nYP.out;omega) (.int .i64 s) (.int .i64 t)
 replace P:=P.put (.int .i64 s) (.int .i64 t)
 replace HB:Below w.heap.size w ((V3.setCell ⟨bP,0,none⟩ (.int .i64 s)).setCell ⟨bP,1,none⟩ (.int .i64 t)):=(HB.setCell (by simp;have:=nXP.out;omega) _).setCell (by simp;have:=nXP.out;omega) _
 generalize ((V3.setCell ⟨bP,0,none⟩ (.int .i64 s)).setCell ⟨bP,1,none⟩ (.int .i64 t))=V4 at *
 obtain⟨qX0,qX1,qX2,qX3,qX4⟩:=id X;obtain⟨qY0,qY1,qY2,qY3,qY4⟩:=id Y;obtain⟨qP0,qP1,qP2,qP3,qP4⟩:=id P
 go_upto_region 10 with fail
 clear qX0 qX1 qX2 qX3 qX4 qY0 qY1 qY2 qY3 qY4 qP0 qP1 qP2 qP3 qP4
 have kX0:=fun n:Behind V4=>n.cell X.1 X.2.2.2.2
 have kX1:=fun n:Behind V4=>n.cell X.2.1 X.2.2.2.2
 have kY0:=fun n:Behind V4=>n.cell Y.1 Y.2.2.2.2
 have kY1:=fun n:Behind V4=>n.cell Y.2.1 Y.2.2.2.2
 have kP0:=fun n:Behind V4=>n.cell P.1 P.2.2.2.2
 have kP1:=fun n:Behind V4=>n.cell P.2.1 P.2.2.2.2
 refine region_behind (by kernel_rfl) (by kernel_rfl) ?_
 repeat (go_big_quiet_step (first | (go_at_call 27;with_reducible refine Behind.call (h1 _)) | (go_at_call 27;with_reducible refine Behind.call (h2 _)) | (go_at_call 27;with_reducible refine Behind.call (h4 _)) | (go_at_call 29;with_reducible refine Behind.call (i2 _)) | (go_at_call 26;with_reducible refine Behind.call (j2 _))))
 refine wpQuiet_nil ?_
 rintro _ ⟨m',rfl⟩
 obtain⟨V5,hb1⟩:=m'
 dsimp only
 clear kX0 kX1 kY0 kY1 kP0 kP1
 replace X:=X.keep hb1
 replace Y:=Y.keep hb1
 replace P:=P.keep hb1
 replace HB:=later HB hb1
 clear hb1
 obtain⟨qX0,qX1,qX2,qX3,qX4⟩:=id X;obtain⟨qY0,qY1,qY2,qY3,qY4⟩:=id Y;obtain⟨qP0,qP1,qP2,qP3,qP4⟩:=id P
 go_upto_region 12 with fail
 go_upto_region 13 with (go_at_call 20;(with_reducible refine (c4 _).mono ?_);rintro _ V6 ⟨rfl,hb1⟩;replace X:=X.keep hb1;replace Y:=Y.keep hb1;replace P:=P.keep hb1;replace HB:=later HB hb1;clear hb1;clear qX0 qX1 qX2 qX3 qX4 qY0 qY1 qY2 qY3 qY4 qP0 qP1 qP2 qP3 qP4;obtain⟨qX0,qX1,qX2,qX3,qX4⟩:=id X;obtain⟨qY0,qY1,qY2,qY3,qY4⟩:=id Y;obtain⟨qP0,qP1,qP2,qP3,qP4⟩:=id P)
 clear qX0 qX1 qX2 qX3 qX4 qY0 qY1 qY2 qY3 qY4 qP0 qP1 qP2 qP3 qP4
 have nXK:Hid ((w.heap.size)<V6.heap.size):=X.lt
 have nYK:Hid ((w.heap.size+1)<V6.heap.size):=Y.lt
 have nPK:Hid (bP<V6.heap.size):=P.lt
 replace X:=X.keep (grewW V6 (.cells #[.int .i64 p,.int .i64 q] 23))
 replace Y:=Y.keep (grewW V6 (.cells #[.int .i64 p,.int .i64 q] 23))
 replace P:=P.keep (grewW V6 (.cells #[.int .i64 p,.int .i64 q] 23))
 replace HB:=later HB (grewW V6 (.cells #[.int .i64 p,.int .i64 q] 23))
 have K:=has2_new V6 (.int .i64 p) (.int .i64 q) 23
 generalize V6.alloc (.cells #[.int .i64 p,.int .i64 q] 23)=V7 at *
 generalize V6.heap.size=bK at *
 obtain⟨qX0,qX1,qX2,qX3,qX4⟩:=id X;obtain⟨qY0,qY1,qY2,qY3,qY4⟩:=id Y;obtain⟨qP0,qP1,qP2,qP3,qP4⟩:=id P;obtain⟨qK0,qK1,qK2,qK3,qK4⟩:=id K
 go_wp2_with fail
 go_ret
 exact⟨by simp,HB⟩
set_option maxHeartbeats 8000000 in
set_option maxRecDepth 4000 in
theorem back_no (aN aD bD x y s t:Int) (bN:Int) (e:Int) (he:¬e=0)
   (r1:∀W,Calls Try.prog 13 #[.agg #[.int .i64 aN,.int .i64 aD]] W fun r w'=>r=.returned (.bool true)∧Below W.heap.size W w')
   (r2:∀W,Calls Try.prog 13 #[.agg #[.int .i64 bN,.int .i64 bD]] W fun r w'=>r=.returned (.bool true)∧Below W.heap.size W w')
   (c1:∀W,Calls Try.prog 14 #[.agg #[.int .i64 aN,.int .i64 aD],.agg #[.int .i64 bN,.int .i64 bD]] W fun r w'=>r=.returned (.tuple #[.agg #[.int .i64 x,.int .i64 y],.int .i64 e])∧Below W.heap.size W w')
   (c3:∀W,Calls Try.prog 18 #[.agg #[.int .i64 aN,.int .i64 aD],.agg #[.int .i64 bN,.int .i64 bD]] W fun r w'=>r=.returned (.tuple #[.agg #[.int .i64 s,.int .i64 t],.int .i64 3])∧Below W.heap.size W w') (w:World) :
   Calls Try.prog 6 #[.agg #[.int .i64 aN,.int .i64 aD],.agg #[.int .i64 bN,.int .i64 bD]] w fun r w'=>r=.returned (.bool true)∧Below w.heap.size w w':=by
 have HB:Below w.heap.size w ((w.alloc (.cells #[.int .i64 aN,.int .i64 aD] 23)).alloc (.cells #[.int .i64 bN,.int .i64 bD] 23)):=by go_grown
 have X:Has2 ((w.alloc (.cells #[.int .i64 aN,.int .i64 aD] 23)).alloc (.cells #[.int .i64 bN,.int .i64 bD] 23)) (w.heap.size) (.int .i64 aN) (.int .i64 aD):=⟨by go_simp,by go_simp,by go_simp,by go_simp,by go_size⟩
 have Y:Has2 ((w.alloc (.cells #[.int .i64 aN,.int .i64 aD] 23)).alloc (.cells #[.int .i64 bN,.int .i64 bD] 23)) (w.heap.size+1) (.int .i64 bN) (.int .i64 bD):=⟨by go_simp,by go_simp,by go_simp,by go_simp,by go_size⟩
 go_enter Try.func6,Try.ntmps6
 go_upto_region 1 with fail
 generalize ((w.alloc (.cells #[.int .i64 aN,.int .i64 aD] 23)).alloc (.cells #[.int .i64 bN,.int .i64 bD] 23))=V9 at *
 obtain⟨pX0,pX1,pX2,pX3,pX4⟩:=id X;obtain⟨pY0,pY1,pY2,pY3,pY4⟩:=id Y
 go_upto_region 3 with (first | (go_at_call_of 13 (Value.agg #[.int .i64 aN,.int .i64 aD]);(with_reducible refine (r1 _).mono ?_);rintro _ W1 ⟨rfl,hb1⟩;replace X:=X.keep hb1;replace Y:=Y.keep hb1;replace HB:=later HB hb1;clear hb1;obtain⟨p1X0,p1X1,p1X2,p1X3,p1X4⟩:=id X;obtain⟨p1Y0,p1Y1,p1Y2,p1Y3,p1Y4⟩:=id Y) | (go_at_call_of 13 (Value.agg #[.int .i64 bN,.int .i64 bD]);(with_reducible refine (r2 _).mono ?_);rintro _ W2 ⟨rfl,hb1⟩;replace X:=X.keep hb1;replace Y:=Y.keep hb1;replace HB:=later HB hb1;clear hb1;obtain⟨p2X0,p2X1,p2X2,p2X3,p2X4⟩:=id X;obtain⟨p2Y0,p2Y1,p2Y2,p2Y3,p2Y4⟩:=id Y))
 clear pX0 pX1 pX2 pX3 pX4 pY0 pY1 pY2 pY3 pY4
 clear p1X0 p1X1 p1X2 p1X3 p1X4 p1Y0 p1Y1 p1Y2 p1Y3 p1Y4
 clear p2X0 p2X1 p2X2 p2X3 p2X4 p2Y0 p2Y1 p2Y2 p2Y3 p2Y4
 generalize W2=V0 at *
 obtain⟨qX0,qX1,qX2,qX3,qX4⟩:=id X;obtain⟨qY0,qY1,qY2,qY3,qY4⟩:=id Y
 go_upto_region 4 with (go_at_call 14;(with_reducible refine (c1 _).mono ?_);rintro _ V1 ⟨rfl,hb1⟩;replace X:=X.keep hb1;replace Y:=Y.keep hb1;replace HB:=later HB hb1;clear hb1;clear qX0 qX1 qX2 qX3 qX4 qY0 qY1 qY2 qY3 qY4;obtain⟨qX0,qX1,qX2,qX3,qX4⟩:=id X;obtain⟨qY0,qY1,qY2,qY3,qY4⟩:=id Y)
 clear qX0 qX1 qX2 qX3 qX4 qY0 qY1 qY2 qY3 qY4
 have nXP:Hid ((w.heap.size)<V1.heap.size):=X.lt
 have nYP:Hid ((w.heap.size+1)<V1.heap.size):=Y.lt
 replace X:=X.keep (grewW V1 (.cells #[.int .i64 x,.int .i64 y] 23))
 replace Y:=Y.keep (grewW V1 (.cells #[.int .i64 x,.int .i64 y] 23))
 replace HB:=later HB (grewW V1 (.cells #[.int .i64 x,.int .i64 y] 23))
 have P:=has2_new V1 (.int .i64 x) (.int .i64 y) 23
 generalize V1.alloc (.cells #[.int .i64 x,.int .i64 y] 23)=V2 at *
 generalize V1.heap.size=bP at *
 obtain⟨qX0,qX1,qX2,qX3,qX4⟩:=id X;obtain⟨qY0,qY1,qY2,qY3,qY4⟩:=id Y;obtain⟨qP0,qP1,qP2,qP3,qP4⟩:=id P
 go_upto_region 8 with fail
 go_upto_region 9 with (go_at_call 18;(with_reducible refine (c3 _).mono ?_);rintro _ V3 ⟨rfl,hb1⟩;replace X:=X.keep hb1;replace Y:=Y.keep hb1;replace P:=P.keep hb1;replace HB:=later HB hb1;clear hb1;clear qX0 qX1 qX2 qX3 qX4 qY0 qY1 qY2 qY3 qY4 qP0 qP1 qP2 qP3 qP4;obtain⟨qX0,qX1,qX2,qX3,qX4⟩:=id X;obtain⟨qY0,qY1,qY2,qY3,qY4⟩:=id Y;obtain⟨qP0,qP1,qP2,qP3,qP4⟩:=id P)
 clear qX0 qX1 qX2 qX3 qX4 qY0 qY1 qY2 qY3 qY4 qP0 qP1 qP2 qP3 qP4
 replace X:=X.far2 (c:=bP) (by have:=nXP.out;omega) (.int .i64 s) (.int .i64 t)
 replace Y:=Y.far2 (c:=bP) (by have:=nYP.out;omega) (.int .i64 s) (.int .i64 t)
 replace P:=P.put (.int .i64 s) (.int .i64 t)
 replace HB:Below w.heap.size w ((V3.setCell ⟨bP,0,none⟩ (.int .i64 s)).setCell ⟨bP,1,none⟩ (.int .i64 t)):=(HB.setCell (by simp;have:=nXP.out;omega) _).setCell (by simp;have:=nXP.out;omega) _
 generalize ((V3.setCell ⟨bP,0,none⟩ (.int .i64 s)).setCell ⟨bP,1,none⟩ (.int .i64 t))=V4 at *
 obtain⟨qX0,qX1,qX2,qX3,qX4⟩:=id X;obtain⟨qY0,qY1,qY2,qY3,qY4⟩:=id Y;obtain⟨qP0,qP1,qP2,qP3,qP4⟩:=id P
 go_wp2_with fail
 go_ret
 exact⟨by simp,HB⟩
end Go.Proofs.Ytdnpoacjamkhkaa
