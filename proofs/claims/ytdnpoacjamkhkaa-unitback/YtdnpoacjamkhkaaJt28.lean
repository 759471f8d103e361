/- The program: Make, Add, Sub, Mul, Div of quotients (rat). The program: powers of quotients (rat.Pow), walked over letters. The program's Add, Sub, Mul, Div, Pow of quotients answer the exact ones in their form (rat). The program: the order of quotients (rat.Cmp). -/
import Derived.Test.YtdnpoacjamkhkaaJt22
import Derived.Test.YtdnpoacjamkhkaaJt26
import Derived.Test.YtdnpoacjamkhkaaJt27
import Derived.Test.YtdnpoacjamkhkaaJt24
import Derived.Test.YtdnpoacjamkhkaaJt23
namespace Go.Proofs.Ytdnpoacjamkhkaa
open Go.ChangeShapes Go.WideShapes Go.ChangeAt Go.RowKit
set_option maxHeartbeats 2000000 in
theorem rAdd_bad (aN aD bN bD:Int) (b1 b2:Bool) (h:(b1&&b2)=false)
   (r1:∀W,Calls Try.prog 12 #[.agg #[.int .i64 aN,.int .i64 aD]] W fun r w'=>r=.returned (.bool b1)∧Below W.heap.size W w')
   (r2:∀W,Calls Try.prog 12 #[.agg #[.int .i64 bN,.int .i64 bD]] W fun r w'=>r=.returned (.bool b2)∧Below W.heap.size W w') (w:World) :
   Calls Try.prog 14 #[.agg #[.int .i64 aN,.int .i64 aD],.agg #[.int .i64 bN,.int .i64 bD]] w fun r w'=>r=.returned (.tuple #[.agg #[.int .i64 0,.int .i64 0],.int .i64 1])∧Below w.heap.size w w':=by
 have HB:Below w.heap.size w (((w.alloc (.cells #[.int .i64 aN,.int .i64 aD] 23)).alloc (.cells #[.int .i64 bN,.int .i64 bD] 23)).alloc (.cells #[.int .i64 0,.int .i64 0] 23)):=by go_grown
 have X:Has2 (((w.alloc (.cells #[.int .i64 aN,.int .i64 aD] 23)).alloc (.cells #[.int .i64 bN,.int .i64 bD] 23)).alloc (.cells #[.int .i64 0,.int .i64 0] 23)) w.heap.size (.int .i64 aN) (.int .i64 aD):=⟨by go_simp,by go_simp,by go_simp,by go_simp,by go_size⟩
 have Y:Has2 (((w.alloc (.cells #[.int .i64 aN,.int .i64 aD] 23)).alloc (.cells #[.int .i64 bN,.int .i64 bD] 23)).alloc (.cells #[.int .i64 0,.int .i64 0] 23)) (w.heap.size+1) (.int .i64 bN) (.int .i64 bD):=⟨by go_simp,by go_simp,by go_simp,by go_simp,by go_size⟩
 have Z:Has2 (((w.alloc (.cells #[.int .i64 aN,.int .i64 aD] 23)).alloc (.cells #[.int .i64 bN,.int .i64 bD] 23)).alloc (.cells #[.int .i64 0,.int .i64 0] 23)) (w.heap.size+1+1) (.int .i64 0) (.int .i64 0):=⟨by go_simp,by go_simp,by go_simp,by go_simp,by go_size⟩
 go_enter Try.func14,Try.ntmps14
 go_upto_region 1 with fail
 generalize (((w.alloc (.cells #[.int .i64 aN,.int .i64 aD] 23)).alloc (.cells #[.int .i64 bN,.int .i64 bD] 23)).alloc (.cells #[.int .i64 0,.int .i64 0] 23))=V1 at *
 obtain⟨px0,px1,px2,px3,px4⟩:=id X;obtain⟨py0,py1,py2,py3,py4⟩:=id Y;obtain⟨pz0,pz1,pz2,pz3,pz4⟩:=id Z
 cases b1
 · go_wp2_with (go_at_call_of 12 (Value.agg #[.int .i64 aN,.int .i64 aD]);(with_reducible refine (r1 _).mono ?_);rintro _ W1 ⟨rfl,hb1⟩;replace X:=X.keep hb1;replace Y:=Y.keep hb1;replace Z:=Z.keep hb1;replace HB:=later HB hb1;clear hb1;obtain⟨p1x0,p1x1,p1x2,p1x3,p1x4⟩:=id X;obtain⟨p1y0,p1y1,p1y2,p1y3,p1y4⟩:=id Y;obtain⟨p1z0,p1z1,p1z2,p1z3,p1z4⟩:=id Z)
   refine bodyPost_ret (v:=.tuple #[.agg #[.int .i64 0,.int .i64 0],.int .i64 1]) (by simp [results,Try.results14,go_sem, *]) rfl ⟨rfl, ?_⟩;repeat' (first | (with_reducible exact HB) | (with_reducible refine Below.setCell ?_ ?_ _) | go_size)
 · cases b2
   · go_wp2_with (first | (go_at_call_of 12 (Value.agg #[.int .i64 aN,.int .i64 aD]);(with_reducible refine (r1 _).mono ?_);rintro _ W1 ⟨rfl,hb1⟩;replace X:=X.keep hb1;replace Y:=Y.keep hb1;replace Z:=Z.keep hb1;replace HB:=later HB hb1;clear hb1;obtain⟨p1x0,p1x1,p1x2,p1x3,p1x4⟩:=id X;obtain⟨p1y0,p1y1,p1y2,p1y3,p1y4⟩:=id Y;obtain⟨p1z0,p1z1,p1z2,p1z3,p1z4⟩:=id Z) | (go_at_call_of 12 (Value.agg #[.int .i64 bN,.int .i64 bD]);(with_reducible refine (r2 _).mono ?_);rintro _ W2 ⟨rfl,hb1⟩;replace X:=X.keep hb1;replace Y:=Y.keep hb1;replace Z:=Z.keep hb1;replace HB:=later HB hb1;clear hb1;obtain⟨p2x0,p2x1,p2x2,p2x3,p2x4⟩:=id X;obtain⟨p2y0,p2y1,p2y2,p2y3,p2y4⟩:=id Y;obtain⟨p2z0,p2z1,p2z2,p2z3,p2z4⟩:=id Z))
     refine bodyPost_ret (v:=.tuple #[.agg #[.int .i64 0,.int .i64 0],.int .i64 1]) (by simp [results,Try.results14,go_sem, *]) rfl ⟨rfl, ?_⟩;repeat' (first | (with_reducible exact HB) | (with_reducible refine Below.setCell ?_ ?_ _) | go_size)
   · cases h
set_option maxHeartbeats 2000000 in
theorem rAdd_good (aN aD bN bD x y e:Int)
   (r1:∀W,Calls Try.prog 12 #[.agg #[.int .i64 aN,.int .i64 aD]] W fun r w'=>r=.returned (.bool true)∧Below W.heap.size W w')
   (r2:∀W,Calls Try.prog 12 #[.agg #[.int .i64 bN,.int .i64 bD]] W fun r w'=>r=.returned (.bool true)∧Below W.heap.size W w')
   (c:∀W,Calls Try.prog 44 #[.agg #[.int .i64 aN,.int .i64 aD],.agg #[.int .i64 bN,.int .i64 bD]] W fun r w'=>r=.returned (.tuple #[.agg #[.int .i64 x,.int .i64 y],.int .i64 e])∧Below W.heap.size W w') (w:World) :
   Calls Try.prog 14 #[.agg #[.int .i64 aN,.int .i64 aD],.agg #[.int .i64 bN,.int .i64 bD]] w fun r w'=>r=.returned (.tuple #[.agg #[.int .i64 x,.int .i64 y],.int .i64 e])∧Below w.heap.size w w':=by
 have HB:Below w.heap.size w (((w.alloc (.cells #[.int .i64 aN,.int .i64 aD] 23)).alloc (.cells #[.int .i64 bN,.int .i64 bD] 23)).alloc (.cells #[.int .i64 0,.int .i64 0] 23)):=by go_grown
 have X:Has2 (((w.alloc (.cells #[.int .i64 aN,.int .i64 aD] 23)).alloc (.cells #[.int .i64 bN,.int .i64 bD] 23)).alloc (.cells #[.int .i64 0,.int .i64 0] 23)) w.heap.size (.int .i64 aN) (.int .i64 aD):=⟨by go_simp,by go_simp,by go_simp,by go_simp,by go_size⟩
 have Y:Has2 (((w.alloc (.cells #[.int .i64 aN,.int .i64 aD] 23)).alloc (.cells #[.int .i64 bN,.int .i64 bD] 23)).alloc (.cells #[.int .i64 0,.int .i64 0] 23)) (w.heap.size+1) (.int .i64 bN) (.int .i64 bD):=⟨by go_simp,by go_simp,by go_simp,by go_simp,by go_size⟩
 have Z:Has2 (((w.alloc (.cells #[.int .i64 aN,.int .i64 aD] 23)).alloc (.cells #[.int .i64 bN,.int .i64 bD] 23)).alloc (.cells #[.int .i64 0,.int .i64 0] 23)) (w.heap.size+1+1) (.int .i64 0) (.int .i64 0):=⟨by go_simp,by go_simp,by go_simp,by go_simp,by go_size⟩
 go_enter Try.func14,Try.ntmps14
 go_upto_region 1 with fail
 generalize (((w.alloc (.cells #[.int .i64 aN,.int .i64 aD] 23)).alloc (.cells #[.int .i64 bN,.int .i64 bD] 23)).alloc (.cells #[.int .i64 0,.int .i64 0] 23))=V1 at *
 obtain⟨px0,px1,px2,px3,px4⟩:=id X;obtain⟨py0,py1,py2,py3,py4⟩:=id Y;obtain⟨pz0,pz1,pz2,pz3,pz4⟩:=id Z
 go_wp2_with (first | (go_at_call_of 12 (Value.agg #[.int .i64 aN,.int .i64 aD]);(with_reducible refine (r1 _).mono ?_);rintro _ W1 ⟨rfl,hb1⟩;replace X:=X.keep hb1;replace Y:=Y.keep hb1;replace Z:=Z.keep hb1;replace HB:=later HB hb1;clear hb1;obtain⟨p1x0,p1x1,p1x2,p1x3,p1x4⟩:=id X;obtain⟨p1y0,p1y1,p1y2,p1y3,p1y4⟩:=id Y;obtain⟨p1z0,p1z1,p1z2,p1z3,p1z4⟩:=id Z) | (go_at_call_of 12 (Value.agg #[.int .i64 bN,.int .i64 bD]);(with_reducible refine (r2 _).mono ?_);rintro _ W2 ⟨rfl,hb1⟩;replace X:=X.keep hb1;replace Y:=Y.keep hb1;replace Z:=Z.keep hb1;replace HB:=later HB hb1;clear hb1;obtain⟨p2x0,p2x1,p2x2,p2x3,p2x4⟩:=id X;obtain⟨p2y0,p2y1,p2y2,p2y3,p2y4⟩:=id Y;obtain⟨p2z0,p2z1,p2z2,p2z3,p2z4⟩:=id Z) | (go_at_call 44;(with_reducible refine (c _).mono ?_);rintro _ W3 ⟨rfl,hb1⟩;replace X:=X.keep hb1;replace Y:=Y.keep hb1;replace Z:=Z.keep hb1;replace HB:=later HB hb1;clear hb1;obtain⟨p3x0,p3x1,p3x2,p3x3,p3x4⟩:=id X;obtain⟨p3y0,p3y1,p3y2,p3y3,p3y4⟩:=id Y;obtain⟨p3z0,p3z1,p3z2,p3z3,p3z4⟩:=id Z))
 refine bodyPost_ret (v:=.tuple #[.agg #[.int .i64 x,.int .i64 y],.int .i64 e]) (by simp [results,Try.results14,go_sem, *]) rfl ⟨rfl, ?_⟩;repeat' (first | (with_reducible exact HB) | (with_reducible refine Below.setCell ?_ ?_ _) | go_size)
set_option maxHeartbeats 2000000 in
theorem rMul_bad (aN aD bN bD:Int) (b1 b2:Bool) (h:(b1&&b2)=false)
   (r1:∀W,Calls Try.prog 12 #[.agg #[.int .i64 aN,.int .i64 aD]] W fun r w'=>r=.returned (.bool b1)∧Below W.heap.size W w')
   (r2:∀W,Calls Try.prog 12 #[.agg #[.int .i64 bN,.int .i64 bD]] W fun r w'=>r=.returned (.bool b2)∧Below W.heap.size W w') (w:World) :
   Calls Try.prog 18 #[.agg #[.int .i64 aN,.int .i64 aD],.agg #[.int .i64 bN,.int .i64 bD]] w fun r w'=>r=.returned (.tuple #[.agg #[.int .i64 0,.int .i64 0],.int .i64 1])∧Below w.heap.size w w':=by
 have HB:Below w.heap.size w (((w.alloc (.cells #[.int .i64 aN,.int .i64 aD] 23)).alloc (.cells #[.int .i64 bN,.int .i64 bD] 23)).alloc (.cells #[.int .i64 0,.int .i64 0] 23)):=by go_grown
 have X:Has2 (((w.alloc (.cells #[.int .i64 aN,.int .i64 aD] 23)).alloc (.cells #[.int .i64 bN,.int .i64 bD] 23)).alloc (.cells #[.int .i64 0,.int .i64 0] 23)) w.heap.size (.int .i64 aN) (.int .i64 aD):=⟨by go_simp,by go_simp,by go_simp,by go_simp,by go_size⟩
 have Y:Has2 (((w.alloc (.cells #[.int .i64 aN,.int .i64 aD] 23)).alloc (.cells #[.int .i64 bN,.int .i64 bD] 23)).alloc (.cells #[.int .i64 0,.int .i64 0] 23)) (w.heap.size+1) (.int .i64 bN) (.int .i64 bD):=⟨by go_simp,by go_simp,by go_simp,by go_simp,by go_size⟩
 have Z:Has2 (((w.alloc (.cells #[.int .i64 aN,.int .i64 aD] 23)).alloc (.cells #[.int .i64 bN,.int .i64 bD] 23)).alloc (.cells #[.int .i64 0,.int .i64 0] 23)) (w.heap.size+1+1) (.int .i64 0) (.int .i64 0):=⟨by go_simp,by go_simp,by go_simp,by go_simp,by go_size⟩
 go_enter Try.func18,Try.ntmps18
 go_upto_region 1 with fail
 generalize (((w.alloc (.cells #[.int .i64 aN,.int .i64 aD] 23)).alloc (.cells #[.int .i64 bN,.int .i64 bD] 23)).alloc (.cells #[.int .i64 0,.int .i64 0] 23))=V1 at *
 obtain⟨px0,px1,px2,px3,px4⟩:=id X;obtain⟨py0,py1,py2,py3,py4⟩:=id Y;obtain⟨pz0,pz1,pz2,pz3,pz4⟩:=id Z
 cases b1
 · go_wp2_with (go_at_call_of 12 (Value.agg #[.int .i64 aN,.int .i64 aD]);(with_reducible refine (r1 _).mono ?_);rintro _ W1 ⟨rfl,hb1⟩;replace X:=X.keep hb1;replace Y:=Y.keep hb1;replace Z:=Z.keep hb1;replace HB:=later HB hb1;clear hb1;obtain⟨p1x0,p1x1,p1x2,p1x3,p1x4⟩:=id X;obtain⟨p1y0,p1y1,p1y2,p1y3,p1y4⟩:=id Y;obtain⟨p1z0,p1z1,p1z2,p1z3,p1z4⟩:=id Z)
   refine bodyPost_ret (v:=.tuple #[.agg #[.int .i64 0,.int .i64 0],.int .i64 1]) (by simp [results,Try.results18,go_sem, *]) rfl ⟨rfl, ?_⟩;repeat' (first | (with_reducible exact HB) | (with_reducible refine Below.setCell ?_ ?_ _) | go_size)
 · cases b2
   · go_wp2_with (first | (go_at_call_of 12 (Value.agg #[.int .i64 aN,.int .i64 aD]);(with_reducible refine (r1 _).mono ?_);rintro _ W1 ⟨rfl,hb1⟩;replace X:=X.keep hb1;replace Y:=Y.keep hb1;replace Z:=Z.keep hb1;replace HB:=later HB hb1;clear hb1;obtain⟨p1x0,p1x1,p1x2,p1x3,p1x4⟩:=id X;obtain⟨p1y0,p1y1,p1y2,p1y3,p1y4⟩:=id Y;obtain⟨p1z0,p1z1,p1z2,p1z3,p1z4⟩:=id Z) | (go_at_call_of 12 (Value.agg #[.int .i64 bN,.int .i64 bD]);(with_reducible refine (r2 _).mono ?_);rintro _ W2 ⟨rfl,hb1⟩;replace X:=X.keep hb1;replace Y:=Y.keep hb1;replace Z:=Z.keep hb1;replace HB:=later HB hb1;clear hb1;obtain⟨p2x0,p2x1,p2x2,p2x3,p2x4⟩:=id X;obtain⟨p2y0,p2y1,p2y2,p2y3,p2y4⟩:=id Y;obtain⟨p2z0,p2z1,p2z2,p2z3,p2z4⟩:=id Z))
     refine bodyPost_ret (v:=.tuple #[.agg #[.int .i64 0,.int .i64 0],.int .i64 1]) (by simp [results,Try.results18,go_sem, *]) rfl ⟨rfl, ?_⟩;repeat' (first | (with_reducible exact HB) | (with_reducible refine Below.setCell ?_ ?_ _) | go_size)
   · cases h
set_option maxHeartbeats 2000000 in
theorem rMul_good (aN aD bN bD x y e:Int)
   (r1:∀W,Calls Try.prog 12 #[.agg #[.int .i64 aN,.int .i64 aD]] W fun r w'=>r=.returned (.bool true)∧Below W.heap.size W w')
   (r2:∀W,Calls Try.prog 12 #[.agg #[.int .i64 bN,.int .i64 bD]] W fun r w'=>r=.returned (.bool true)∧Below W.heap.size W w')
   (c:∀W,Calls Try.prog 49 #[.agg #[.int .i64 aN,.int .i64 aD],.agg #[.int .i64 bN,.int .i64 bD]] W fun r w'=>r=.returned (.tuple #[.agg #[.int .i64 x,.int .i64 y],.int .i64 e])∧Below W.heap.size W w') (w:World) :
   Calls Try.prog 18 #[.agg #[.int .i64 aN,.int .i64 aD],.agg #[.int .i64 bN,.int .i64 bD]] w fun r w'=>r=.returned (.tuple #[.agg #[.int .i64 x,.int .i64 y],.int .i64 e])∧Below w.heap.size w w':=by
 have HB:Below w.heap.size w (((w.alloc (.cells #[.int .i64 aN,.int .i64 aD] 23)).alloc (.cells #[.int .i64 bN,.int .i64 bD] 23)).alloc (.cells #[.int .i64 0,.int .i64 0] 23)):=by go_grown
 have X:Has2 (((w.alloc (.cells #[.int .i64 aN,.int .i64 aD] 23)).alloc (.cells #[.int .i64 bN,.int .i64 bD] 23)).alloc (.cells #[.int .i64 0,.int .i64 0] 23)) w.heap.size (.int .i64 aN) (.int .i64 aD):=⟨by go_simp,by go_simp,by go_simp,by go_simp,by go_size⟩
 have Y:Has2 (((w.alloc (.cells #[.int .i64 aN,.int .i64 aD] 23)).alloc (.cells #[.int .i64 bN,.int .i64 bD] 23)).alloc (.cells #[.int .i64 0,.int .i64 0] 23)) (w.heap.size+1) (.int .i64 bN) (.int .i64 bD):=⟨by go_simp,by go_simp,by go_simp,by go_simp,by go_size⟩
 have Z:Has2 (((w.alloc (.cells #[.int .i64 aN,.int .i64 aD] 23)).alloc (.cells #[.int .i64 bN,.int .i64 bD] 23)).alloc (.cells #[.int .i64 0,.int .i64 0] 23)) (w.heap.size+1+1) (.int .i64 0) (.int .i64 0):=⟨by go_simp,by go_simp,by go_simp,by go_simp,by go_size⟩
 go_enter Try.func18,Try.ntmps18
 go_upto_region 1 with fail
 generalize (((w.alloc (.cells #[.int .i64 aN,.int .i64 aD] 23)).alloc (.cells #[.int .i64 bN,.int .i64 bD] 23)).alloc (.cells #[.int .i64 0,.int .i64 0] 23))=V1 at *
 obtain⟨px0,px1,px2,px3,px4⟩:=id X;obtain⟨py0,py1,py2,py3,py4⟩:=id Y;obtain⟨pz0,pz1,pz2,pz3,pz4⟩:=id Z
 go_wp2_with (first | (go_at_call_of 12 (Value.agg #[.int .i64 aN,.int .i64 aD]);(with_reducible refine (r1 _).mono ?_);rintro _ W1 ⟨rfl,hb1⟩;replace X:=X.keep hb1;replace Y:=Y.keep hb1;replace Z:=Z.keep hb1;replace HB:=later HB hb1;clear hb1;obtain⟨p1x0,p1x1,p1x2,p1x3,p1x4⟩:=id X;obtain⟨p1y0,p1y1,p1y2,p1y3,p1y4⟩:=id Y;obtain⟨p1z0,p1z1,p1z2,p1z3,p1z4⟩:=id Z) | (go_at_call_of 12 (Value.agg #[.int .i64 bN,.int .i64 bD]);(with_reducible refine (r2 _).mono ?_);rintro _ W2 ⟨rfl,hb1⟩;replace X:=X.keep hb1;replace Y:=Y.keep hb1;replace Z:=Z.keep hb1;replace HB:=later HB hb1;clear hb1;obtain⟨p2x0,p2x1,p2x2,p2x3,p2x4⟩:=id X;obtain⟨p2y0,p2y1,p2y2,p2y3,p2y4⟩:=id Y;obtain⟨p2z0,p2z1,p2z2,p2z3,p2z4⟩:=id Z) | (go_at_call 49;(with_reducible refine (c _).mono ?_);rintro _ W3 ⟨rfl,hb1⟩;replace X:=X.keep hb1;replace Y:=Y.keep hb1;replace Z:=Z.keep hb1;replace HB:=later HB hb1;clear hb1;obtain⟨p3x0,p3x1,p3x2,p3x3,p3x4⟩:=id X;obtain⟨p3y0,p3y1,p3y2,p3y3,p3y4⟩:=id Y;obtain⟨p3z0,p3z1,p3z2,p3z3,p3z4⟩:=id Z))
 refine bodyPost_ret (v:=.tuple #[.agg #[.int .i64 x,.int .i64 y],.int .i64 e]) (by simp [results,Try.results18,go_sem, *]) rfl ⟨rfl, ?_⟩;repeat' (first | (with_reducible exact HB) | (with_reducible refine Below.setCell ?_ ?_ _) | go_size)
theorem addRat_w (aN aD bN bD:Int) (ha:I64 aN∧I64 aD) (hb:I64 bN∧I64 bD) (w:World) :
   Calls Try.prog 14 #[.agg #[.int .i64 aN,.int .i64 aD],.agg #[.int .i64 bN,.int .i64 bD]] w fun r w'=>r=.returned (.tuple #[.agg #[.int .i64 (addV11 aN aD bN bD).1,.int .i64 (addV11 aN aD bN bD).2.1],.int .i64 (addV11 aN aD bN bD).2.2])∧Below w.heap.size w w':=by
 have r1:=fun W=>rright_w11 aN aD ha.1 ha.2 W
 have r2:=fun W=>rright_w11 bN bD hb.1 hb.2 W
 by_cases c:(rightR aN aD&&rightR bN bD)=true
 · have e:addV11 aN aD bN bD=ofV (decide (aN*bD+bN*aD<0)) (aN*bD+bN*aD).natAbs (aD.natAbs*bD.natAbs):=by unfold addV11;rw [if_pos c]
   rw [e]
   obtain⟨q1,q2⟩:=Bool.and_eq_true_iff.1 c
   rw [q1] at r1
   rw [q2] at r2
   exact rAdd_good aN aD bN bD _ _ _ r1 r2 (fun W=>rsum_w aN aD bN bD ha hb (rightR_G q1) (rightR_G q2) (rightR_D q1) (rightR_D q2) (rightR_N q1) (rightR_N q2) W) w
 · have e:addV11 aN aD bN bD=(0,0,1):=by unfold addV11;rw [if_neg c]
   rw [e]
   exact rAdd_bad aN aD bN bD _ _ (by simpa using c) r1 r2 w
theorem mulRat_w (aN aD bN bD:Int) (ha:I64 aN∧I64 aD) (hb:I64 bN∧I64 bD) (w:World) :
   Calls Try.prog 18 #[.agg #[.int .i64 aN,.int .i64 aD],.agg #[.int .i64 bN,.int .i64 bD]] w fun r w'=>r=.returned (.tuple #[.agg #[.int .i64 (mulV11 aN aD bN bD).1,.int .i64 (mulV11 aN aD bN bD).2.1],.int .i64 (mulV11 aN aD bN bD).2.2])∧Below w.heap.size w w':=by
 have r1:=fun W=>rright_w11 aN aD ha.1 ha.2 W
 have r2:=fun W=>rright_w11 bN bD hb.1 hb.2 W
 by_cases c:(rightR aN aD&&rightR bN bD)=true
 · have e:mulV11 aN aD bN bD=ofV (!(decide (aN<0)==decide (bN<0))) (aN.natAbs*bN.natAbs) (aD.natAbs*bD.natAbs):=by unfold mulV11;rw [if_pos c]
   rw [e]
   obtain⟨q1,q2⟩:=Bool.and_eq_true_iff.1 c
   rw [q1] at r1
   rw [q2] at r2
   exact rMul_good aN aD bN bD _ _ _ r1 r2 (fun W=>times_w aN aD bN bD ha hb (rightR_G q1) (rightR_G q2) (rightR_D q1) (rightR_D q2) (rightR_N q1) (rightR_N q2) W) w
 · have e:mulV11 aN aD bN bD=(0,0,1):=by unfold mulV11;rw [if_neg c]
   rw [e]
   exact rMul_bad aN aD bN bD _ _ (by simpa using c) r1 r2 w
end Go.Proofs.Ytdnpoacjamkhkaa
