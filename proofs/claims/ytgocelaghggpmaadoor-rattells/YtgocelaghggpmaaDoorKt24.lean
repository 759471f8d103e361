/- The program: the parts of a quotient that are rounded, and its least interval (rat.parts, rat.Hold). -/
import Derived.Test.YtgocelaghggpmaaDoorKt21
import Derived.Test.YtgocelaghggpmaaDoorKt23
import Derived.Deep.RegionHeld3
namespace Go.Proofs.YtgocelaghggpmaaDoor
open Go.ChangeShapes Go.WideShapes Go.ChangeAt Go.RowKit
set_option maxHeartbeats 4000000 in
theorem parts_zero (D:Int) (w:World) (c1:∀W,Calls Tryd.prog 52 #[.int .i64 0] W fun r w'=>r=.returned (.int .u64 0)∧W=w') :
   Calls Tryd.prog 37 #[.agg #[.int .i64 0,.int .i64 D]] w fun r w'=>r=.returned (.agg #[.bool false,.int .u64 0,.int .i64 0])∧Below w.heap.size w w':=by
 go_enter Tryd.func37,Tryd.ntmps37
 go_wp2_with (go_at_call 52;(with_reducible refine (c1 _).mono ?_);rintro _ _ ⟨rfl,rfl⟩)
 refine bodyPost_ret (v:=.agg #[.bool false,.int .u64 0,.int .i64 0]) (by simp [results,Tryd.results37,go_sem, *]) rfl ⟨rfl, ?_⟩
 go_grown
set_option maxHeartbeats 4000000 in
theorem parts_core (N D E:Int) (n d up tp qh ql rs mo a s m lo M:Nat) (g:Bool)
   (c1:∀W,Calls Tryd.prog 52 #[.int .i64 N] W fun r w'=>r=.returned (.int .u64 (n:Int))∧W=w')
   (c2:∀W,Calls Tryd.prog 52 #[.int .i64 D] W fun r w'=>r=.returned (.int .u64 (d:Int))∧W=w')
   (c3:∀W,Calls Tryd.prog 68 #[.int .u64 (n:Int)] W fun r w'=>r=.returned (.int .i64 (up:Int))∧W=w')
   (c4:∀W,Calls Tryd.prog 69 #[.agg #[.int .u64 (tp:Int),.int .u64 0],.int .u64 (d:Int)] W fun r w'=>r=.returned (.tuple #[.agg #[.int .u64 (qh:Int),.int .u64 (ql:Int)],.int .u64 (rs:Int)])∧Below W.heap.size W w')
   (c5:∀W,Calls Tryd.prog 68 #[.int .u64 (qh:Int)] W fun r w'=>r=.returned (.int .i64 (mo:Int))∧W=w')
   (hn:((n:Int)==0)=false) (hmo:mo≤64) (hup:up≤64) (e1:IntKind.u64.wrap ((n:Int)*2^up)=(tp:Int)) (e2:IntKind.u64.wrap ((qh:Int)*2^mo)=(a:Int)) (e3:(ql:Int)/2^(64-mo)=(s:Int)) (e4:bits .or .u64 (a:Int) (s:Int)=(m:Int)) (e5:IntKind.u64.wrap ((ql:Int)*2^mo)=(lo:Int))
   (hM:Hid ((lo=0∧rs=0∧M=m)∨(¬(lo=0∧rs=0)∧bits .or .u64 (m:Int) 1=(M:Int)))) (hE:E=-(up:Int)-(mo:Int)) (hg:decide (N<0)=g) (w:World) :
   Calls Tryd.prog 37 #[.agg #[.int .i64 N,.int .i64 D]] w fun r w'=>r=.returned (.agg #[.bool g,.int .u64 (M:Int),.int .i64 E])∧Below w.heap.size w w':=by
 have HB:Below w.heap.size w ((w.alloc (.cells #[.int .i64 N,.int .i64 D] 23)).alloc (.cells #[.bool false,.int .u64 0,.int .i64 0] 71)):=by go_grown
 have X:Has2 ((w.alloc (.cells #[.int .i64 N,.int .i64 D] 23)).alloc (.cells #[.bool false,.int .u64 0,.int .i64 0] 71)) w.heap.size (.int .i64 N) (.int .i64 D):=⟨by go_simp,by go_simp,by go_simp,by go_simp,by go_size⟩
 have Z:Has3 ((w.alloc (.cells #[.int .i64 N,.int .i64 D] 23)).alloc (.cells #[.bool false,.int .u64 0,.int .i64 0] 71)) (w.heap.size+1) (.bool false) (.int .u64 0) (.int .i64 0):=⟨by go_simp,by go_simp,by go_simp,by go_simp,by go_simp,by go_simp,by go_size⟩
 have hn':¬(n:Int)=0:=by simpa using hn
 have hE':Hid (E=-(up:Int)-(mo:Int)):=hE
 clear hE
 go_enter Tryd.func37,Tryd.ntmps37
 go_upto_region 1 with fail
 generalize ((w.alloc (.cells #[.int .i64 N,.int .i64 D] 23)).alloc (.cells #[.bool false,.int .u64 0,.int .i64 0] 71))=V1 at *
 obtain⟨px0,px1,px2,px3,px4⟩:=id X
 go_upto_region 5 with (first | (go_at_call 52;(with_reducible refine (c1 _).mono ?_);rintro _ _ ⟨rfl,rfl⟩) | (go_at_call 68;(with_reducible refine (c3 _).mono ?_);rintro _ _ ⟨rfl,rfl⟩))
 clear px0 px1 px2 px3 px4
 have HD:Below V1.heap.size V1 V1.drew:=(Below.refl _ _).drew
 replace X:=X.keep HD
 replace Z:=Z.keep HD
 replace HB:=later HB HD
 clear HD
 have hbA:Below V1.drew.heap.size V1.drew (V1.alloc (.cells #[.int .u64 0,.int .u64 0] 92)).drew:=grewW V1.drew (.cells #[.int .u64 0,.int .u64 0] 92)
 have XA:=X.keep hbA
 have ZA:=Z.keep hbA
 have HA:=later HB hbA
 have QA:Has2 (V1.alloc (.cells #[.int .u64 0,.int .u64 0] 92)).drew V1.heap.size (.int .u64 0) (.int .u64 0):=has2_new V1.drew (.int .u64 0) (.int .u64 0) 92
 have X0:w.heap.size<V1.heap.size:=X.lt
 have Z0:w.heap.size+1<V1.heap.size:=Z.lt
 have nq0:V1.heap.size≠w.heap.size:=Nat.ne_of_gt X0
 go_region_held3 (fun w'=>w'.cell? ⟨w.heap.size,0,none⟩=some (.int .i64 N)∧w'.cell? ⟨w.heap.size,1,none⟩=some (.int .i64 D)) (first | with_reducible exact⟨X.c0,X.c1⟩ | with_reducible exact⟨XA.c0,XA.c1⟩ | with_reducible exact⟨(X.keep (below_alloc (Below.refl _ _) _)).c0,(X.keep (below_alloc (Below.refl _ _) _)).c1⟩ | with_reducible exact⟨(X.far2 nq _ _).c0,(X.far2 nq _ _).c1⟩ | with_reducible exact⟨((X.keep (below_alloc (Below.refl _ _) _)).far2 nq _ _).c0,((X.keep (below_alloc (Below.refl _ _) _)).far2 nq _ _).c1⟩ | with_reducible exact⟨(X.far2 nq0 _ _).c0,(X.far2 nq0 _ _).c1⟩ | go_keep) (first
   | (go_at_call 52;(with_reducible refine (c2 _).mono ?_);rintro _ _ ⟨rfl,rfl⟩)
   | (go_at_call 69;(with_reducible refine (c4 V1.drew).mono ?_);rintro _ W2 ⟨rfl,hb1⟩;replace X:=X.keep hb1;replace Z:=Z.keep hb1;replace HB:=later HB hb1;have nq:W2.heap.size≠w.heap.size:=Nat.ne_of_gt X.lt;have tg1:True:=trivial;clear hb1)
   | (go_at_call 69;(with_reducible refine (c4 _).mono ?_);rintro _ W2 ⟨rfl,hb1⟩;replace X:=XA.keep hb1;replace Z:=ZA.keep hb1;replace HB:=later HA hb1;have Q:=QA.keep hb1;obtain⟨n0,n1,n2,n3,n4⟩:=id Q;have tg2:True:=trivial;clear hb1))
 · skip
   have Q:=has2_new W2 (.int .u64 (qh:Int)) (.int .u64 (ql:Int)) 92
   replace X:=X.keep (grewW W2 (.cells #[.int .u64 (qh:Int),.int .u64 (ql:Int)] 92))
   replace Z:=Z.keep (grewW W2 (.cells #[.int .u64 (qh:Int),.int .u64 (ql:Int)] 92))
   replace HB:=later HB (grewW W2 (.cells #[.int .u64 (qh:Int),.int .u64 (ql:Int)] 92))
   generalize W2.alloc (.cells #[.int .u64 (qh:Int),.int .u64 (ql:Int)] 92)=V2 at *
   generalize W2.heap.size=bQ at *
   obtain⟨q0,q1,q2,q3,q4⟩:=id Q
   go_upto_region 7 with (go_at_call 68;(with_reducible refine (c5 _).mono ?_);rintro _ _ ⟨rfl,rfl⟩)
   have kQ0:=fun n:Behind V2=>n.cell Q.1 Q.2.2.2.2
   have kQ1:=fun n:Behind V2=>n.cell Q.2.1 Q.2.2.2.2
   clear q0 q1 q2 q3 q4
   refine region_behind (by kernel_rfl) (by kernel_rfl) ?_
   repeat (go_big_quiet_step (fail))
   refine wpQuiet_nil ?_
   rintro _ ⟨m',rfl⟩
   obtain⟨V3,hb1⟩:=m'
   dsimp only
   clear kQ0 kQ1
   replace X:=X.keep hb1
   replace Z:=Z.keep hb1
   replace Q:=Q.keep hb1
   replace HB:=later HB hb1
   clear hb1
   obtain⟨q0,q1,q2,q3,q4⟩:=id Q
   obtain⟨x0,x1,x2,x3,x4⟩:=id X
   obtain⟨z0,z1,z2,z3,z4,z5,z6⟩:=id Z
   have f1:IntKind.i64.wrap (-(up:Int))=-(up:Int):=by rw [IntKind.wrap_i64];omega
   have f2:IntKind.i64.wrap (-(up:Int)-(mo:Int))=E:=by rw [IntKind.wrap_i64,hE'.out];omega
   rcases hM.out with ⟨k1,k2,k3⟩ | ⟨k1,k2⟩
   · subst k1 k2 k3
     go_wp2_with fail
     refine bodyPost_ret (v:=(.agg #[.bool g,.int .u64 (M:Int),.int .i64 E])) (by simp [results,Tryd.results37,go_sem, *]) rfl ⟨rfl, ?_⟩;repeat' (first | (with_reducible exact HB) | (with_reducible refine Below.setCell ?_ ?_ _) | go_size)
   · by_cases k3:lo=0
     · have k4:¬(rs:Int)=0:=by omega
       have k5:((rs:Int) != 0)=true:=by simpa using k4
       subst k3
       go_wp2_with fail
       refine bodyPost_ret (v:=(.agg #[.bool g,.int .u64 (M:Int),.int .i64 E])) (by simp [results,Tryd.results37,go_sem, *]) rfl ⟨rfl, ?_⟩;repeat' (first | (with_reducible exact HB) | (with_reducible refine Below.setCell ?_ ?_ _) | go_size)
     · have k4:¬(lo:Int)=0:=by omega
       have k5:((lo:Int) != 0)=true:=by simpa using k4
       go_wp2_with fail
       refine bodyPost_ret (v:=(.agg #[.bool g,.int .u64 (M:Int),.int .i64 E])) (by simp [results,Tryd.results37,go_sem, *]) rfl ⟨rfl, ?_⟩;repeat' (first | (with_reducible exact HB) | (with_reducible refine Below.setCell ?_ ?_ _) | go_size)
 · skip
   have nz:V1.heap.size≠w.heap.size+1:=Nat.ne_of_gt Z0
   have xx:w.heap.size<V1.heap.size:=X0
   replace Q:=Q.put (.int .u64 (qh:Int)) (.int .u64 (ql:Int))
   replace X:=X.far2 nq0 (.int .u64 (qh:Int)) (.int .u64 (ql:Int))
   replace Z:=Z.far2 nz (.int .u64 (qh:Int)) (.int .u64 (ql:Int))
   replace HB:Below w.heap.size w ((W2.setCell ⟨V1.heap.size,0,none⟩ (.int .u64 (qh:Int))).setCell ⟨V1.heap.size,1,none⟩ (.int .u64 (ql:Int))):=(HB.setCell (by simp;omega) _).setCell (by simp;omega) _
   clear n0 n1 n2 n3 n4
   generalize ((W2.setCell ⟨V1.heap.size,0,none⟩ (.int .u64 (qh:Int))).setCell ⟨V1.heap.size,1,none⟩ (.int .u64 (ql:Int)))=V2 at *
   generalize V1.heap.size=bQ at *
   obtain⟨q0,q1,q2,q3,q4⟩:=id Q
   go_upto_region 7 with (go_at_call 68;(with_reducible refine (c5 _).mono ?_);rintro _ _ ⟨rfl,rfl⟩)
   have kQ0:=fun n:Behind V2=>n.cell Q.1 Q.2.2.2.2
   have kQ1:=fun n:Behind V2=>n.cell Q.2.1 Q.2.2.2.2
   clear q0 q1 q2 q3 q4
   refine region_behind (by kernel_rfl) (by kernel_rfl) ?_
   repeat (go_big_quiet_step (fail))
   refine wpQuiet_nil ?_
   rintro _ ⟨m',rfl⟩
   obtain⟨V3,hb1⟩:=m'
   dsimp only
   clear kQ0 kQ1
   replace X:=X.keep hb1
   replace Z:=Z.keep hb1
   replace Q:=Q.keep hb1
   replace HB:=later HB hb1
   clear hb1
   obtain⟨q0,q1,q2,q3,q4⟩:=id Q
   obtain⟨x0,x1,x2,x3,x4⟩:=id X
   obtain⟨z0,z1,z2,z3,z4,z5,z6⟩:=id Z
   have f1:IntKind.i64.wrap (-(up:Int))=-(up:Int):=by rw [IntKind.wrap_i64];omega
   have f2:IntKind.i64.wrap (-(up:Int)-(mo:Int))=E:=by rw [IntKind.wrap_i64,hE'.out];omega
   rcases hM.out with ⟨k1,k2,k3⟩ | ⟨k1,k2⟩
   · subst k1 k2 k3
     go_wp2_with fail
     refine bodyPost_ret (v:=(.agg #[.bool g,.int .u64 (M:Int),.int .i64 E])) (by simp [results,Tryd.results37,go_sem, *]) rfl ⟨rfl, ?_⟩;repeat' (first | (with_reducible exact HB) | (with_reducible refine Below.setCell ?_ ?_ _) | go_size)
   · by_cases k3:lo=0
     · have k4:¬(rs:Int)=0:=by omega
       have k5:((rs:Int) != 0)=true:=by simpa using k4
       subst k3
       go_wp2_with fail
       refine bodyPost_ret (v:=(.agg #[.bool g,.int .u64 (M:Int),.int .i64 E])) (by simp [results,Tryd.results37,go_sem, *]) rfl ⟨rfl, ?_⟩;repeat' (first | (with_reducible exact HB) | (with_reducible refine Below.setCell ?_ ?_ _) | go_size)
     · have k4:¬(lo:Int)=0:=by omega
       have k5:((lo:Int) != 0)=true:=by simpa using k4
       go_wp2_with fail
       refine bodyPost_ret (v:=(.agg #[.bool g,.int .u64 (M:Int),.int .i64 E])) (by simp [results,Tryd.results37,go_sem, *]) rfl ⟨rfl, ?_⟩;repeat' (first | (with_reducible exact HB) | (with_reducible refine Below.setCell ?_ ?_ _) | go_size)
 · skip
   have nz:V1.heap.size≠w.heap.size+1:=Nat.ne_of_gt Z0
   have xx:w.heap.size<V1.heap.size:=X0
   replace Q:=Q.put (.int .u64 (qh:Int)) (.int .u64 (ql:Int))
   replace X:=X.far2 nq0 (.int .u64 (qh:Int)) (.int .u64 (ql:Int))
   replace Z:=Z.far2 nz (.int .u64 (qh:Int)) (.int .u64 (ql:Int))
   replace HB:Below w.heap.size w ((W2.setCell ⟨V1.heap.size,0,none⟩ (.int .u64 (qh:Int))).setCell ⟨V1.heap.size,1,none⟩ (.int .u64 (ql:Int))):=(HB.setCell (by simp;omega) _).setCell (by simp;omega) _
   clear n0 n1 n2 n3 n4
   generalize ((W2.setCell ⟨V1.heap.size,0,none⟩ (.int .u64 (qh:Int))).setCell ⟨V1.heap.size,1,none⟩ (.int .u64 (ql:Int)))=V2 at *
   generalize V1.heap.size=bQ at *
   obtain⟨q0,q1,q2,q3,q4⟩:=id Q
   go_upto_region 7 with (go_at_call 68;(with_reducible refine (c5 _).mono ?_);rintro _ _ ⟨rfl,rfl⟩)
   have kQ0:=fun n:Behind V2=>n.cell Q.1 Q.2.2.2.2
   have kQ1:=fun n:Behind V2=>n.cell Q.2.1 Q.2.2.2.2
   clear q0 q1 q2 q3 q4
   refine region_behind (by kernel_rfl) (by kernel_rfl) ?_
   repeat (go_big_quiet_step (fail))
   refine wpQuiet_nil ?_
   rintro _ ⟨m',rfl⟩
   obtain⟨V3,hb1⟩:=m'
   dsimp only
   clear kQ0 kQ1
   replace X:=X.keep hb1
   replace Z:=Z.keep hb1
   replace Q:=Q.keep hb1
   replace HB:=later HB hb1
   clear hb1
   obtain⟨q0,q1,q2,q3,q4⟩:=id Q
   obtain⟨x0,x1,x2,x3,x4⟩:=id X
   obtain⟨z0,z1,z2,z3,z4,z5,z6⟩:=id Z
   have f1:IntKind.i64.wrap (-(up:Int))=-(up:Int):=by rw [IntKind.wrap_i64];omega
   have f2:IntKind.i64.wrap (-(up:Int)-(mo:Int))=E:=by rw [IntKind.wrap_i64,hE'.out];omega
   rcases hM.out with ⟨k1,k2,k3⟩ | ⟨k1,k2⟩
   · subst k1 k2 k3
     go_wp2_with fail
     refine bodyPost_ret (v:=(.agg #[.bool g,.int .u64 (M:Int),.int .i64 E])) (by simp [results,Tryd.results37,go_sem, *]) rfl ⟨rfl, ?_⟩;repeat' (first | (with_reducible exact HB) | (with_reducible refine Below.setCell ?_ ?_ _) | go_size)
   · by_cases k3:lo=0
     · have k4:¬(rs:Int)=0:=by omega
       have k5:((rs:Int) != 0)=true:=by simpa using k4
       subst k3
       go_wp2_with fail
       refine bodyPost_ret (v:=(.agg #[.bool g,.int .u64 (M:Int),.int .i64 E])) (by simp [results,Tryd.results37,go_sem, *]) rfl ⟨rfl, ?_⟩;repeat' (first | (with_reducible exact HB) | (with_reducible refine Below.setCell ?_ ?_ _) | go_size)
     · have k4:¬(lo:Int)=0:=by omega
       have k5:((lo:Int) != 0)=true:=by simpa using k4
       go_wp2_with fail
       refine bodyPost_ret (v:=(.agg #[.bool g,.int .u64 (M:Int),.int .i64 E])) (by simp [results,Tryd.results37,go_sem, *]) rfl ⟨rfl, ?_⟩;repeat' (first | (with_reducible exact HB) | (with_reducible refine Below.setCell ?_ ?_ _) | go_size)
end Go.Proofs.YtgocelaghggpmaaDoor
