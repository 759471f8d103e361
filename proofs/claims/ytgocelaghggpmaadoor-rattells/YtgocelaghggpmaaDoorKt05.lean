/- The program: the parts of a quotient that are rounded, and its least interval (rat.parts, rat.Hold). The reference's numbers of stage 11: products, quotients, powers, the order. The reference's numbers of stage 11: sums and differences. The reference's numbers of stage 11: Add and Sub, whole. The least interval of a quotient (rat.Hold): what its ends are. The least interval of a quotient (rat.Hold), walked; what its ends are. The walks of the reference's Index and At. The walks of the reference's Split, Float and Int. -/
import Derived.Test.YtgocelaghggpmaaDoorChecked
import Derived.Lib.Strings
import Derived.Lib.Slices
import Derived.Lib.Small
import Derived.Lib.Walk
import Derived.Lib.BitFns
import Derived.KernelRfl
import Derived.WalkKit
import Derived.Laws.Cover2
import Derived.Laws.FloatArith
import Derived.Laws.BitsAllLaws
import Derived.Test.YtgocelaghggpmaaDoorRows
import Derived.ProofKit
import Derived.OpenShut
import Derived.WalkSpells
import Derived.WalkLawsBesides
import Derived.Laws.Externs
import Derived.Laws.Bits64b
import Derived.Handy
import Derived.Deep.RegionWith
import Derived.Deep.QuietTactic
import Derived.BigQuiet
import Derived.Deep.RegionHeld3
import Derived.Deep.CutRange
import Derived.Deep.CutBlock
import Derived.Deep.LoopGhost
import Derived.WalkSmall
import Derived.Deep.Quiet
import Derived.StillTail
import Derived.Test.YtgocelaghggpmaaDoorShelf
import Derived.Lib.AppendIntMem
import Derived.Lib.ItoaLen
import Derived.ChangeSame
import Derived.JoinedOf
import Derived.JoinedAt
import Derived.RowKit3
import Derived.Lib.LaidTab
import Derived.Stop.LaidErr
import Derived.MakeChecks
import Derived.Test.YtgocelaghggpmaaDoorKa01
import Derived.Test.YtgocelaghggpmaaDoorKa02
import Derived.Test.YtgocelaghggpmaaDoorKa03
import Derived.Test.YtgocelaghggpmaaDoorKa04
import Derived.Test.YtgocelaghggpmaaDoorKa05
import Derived.Test.YtgocelaghggpmaaDoorKa06
import Derived.Test.YtgocelaghggpmaaDoorKa07
import Derived.Test.YtgocelaghggpmaaDoorKa08
import Derived.Test.YtgocelaghggpmaaDoorKa09
import Derived.Test.YtgocelaghggpmaaDoorKa10
import Derived.Test.YtgocelaghggpmaaDoorKa11
import Derived.Test.YtgocelaghggpmaaDoorKa12
import Derived.Test.YtgocelaghggpmaaDoorKa13
import Derived.Test.YtgocelaghggpmaaDoorKa14
import Derived.Test.YtgocelaghggpmaaDoorKa15
import Derived.Test.YtgocelaghggpmaaDoorKa16
import Derived.Test.YtgocelaghggpmaaDoorKa17
import Derived.Test.YtgocelaghggpmaaDoorKa18
import Derived.Test.YtgocelaghggpmaaDoorKa19
import Derived.Test.YtgocelaghggpmaaDoorKa20
import Derived.Test.YtgocelaghggpmaaDoorKa21
import Derived.Test.YtgocelaghggpmaaDoorKa22
import Derived.Test.YtgocelaghggpmaaDoorKa23
import Derived.Test.YtgocelaghggpmaaDoorKa24
import Derived.Test.YtgocelaghggpmaaDoorKa25
import Derived.Test.YtgocelaghggpmaaDoorKa26
import Derived.Test.YtgocelaghggpmaaDoorKa27
import Derived.Test.YtgocelaghggpmaaDoorKa28
import Derived.Test.YtgocelaghggpmaaDoorKa29
import Derived.Test.YtgocelaghggpmaaDoorKa30
import Derived.Test.YtgocelaghggpmaaDoorKa31
import Derived.Test.YtgocelaghggpmaaDoorKa32
import Derived.Test.YtgocelaghggpmaaDoorKa33
import Derived.Test.YtgocelaghggpmaaDoorKa34
import Derived.Test.YtgocelaghggpmaaDoorKa35
import Derived.Test.YtgocelaghggpmaaDoorKt04
namespace Go.Proofs.YtgocelaghggpmaaDoor
open Go.ChangeShapes Go.WideShapes Go.ChangeAt Go.RowKit
set_option maxHeartbeats 4000000 in
theorem parts_zero (D:Int) (w:World) (c1:∀W,Calls Tryd.prog 52 #[.int .i64 0] W fun r w'=>r=.returned (.int .u64 0)∧W=w') :
   Calls Tryd.prog 37 #[.agg #[.int .i64 0,.int .i64 D]] w fun r w'=>r=.returned (.agg #[.bool false,.int .u64 0,.int .i64 0])∧Below w.heap.size w w':=by
 go_enter Tryd.func37,Tryd.ntmps37
 go_wp2_with (go_at_call 52;(with_reducible refine (c1 _).mono ?_);rintro _ _ ⟨rfl,rfl⟩)
 refine bodyPost_ret (v:=.agg #[.bool false,.int .u64 0,.int .i64 0]) (by simp [results,Tryd.results37,go_sem, *]) rfl ⟨rfl, ?_⟩
 go_grown
set_option maxHeartbeats 4000000 in
theorem parts_core (N D E:Int) (n d up tp qh ql rs mo a s m lo M:Nat) (g:Bool)
   (c1:∀W,Calls Tryd.prog 52 #[.int .i64 N] W fun r w'=>r=.returned (.int .u64 (n:Int))∧W=w')
   (c2:∀W,Calls Tryd.prog 52 #[.int .i64 D] W fun r w'=>r=.returned (.int .u64 (d:Int))∧W=w')
   (c3:∀W,Calls Tryd.prog 68 #[.int .u64 (n:Int)] W fun r w'=>r=.returned (.int .i64 (up:Int))∧W=w')
   (c4:∀W,Calls Tryd.prog 69 #[.agg #[.int .u64 (tp:Int),.int .u64 0],.int .u64 (d:Int)] W fun r w'=>r=.returned (.tuple #[.agg #[.int .u64 (qh:Int),.int .u64 (ql:Int)],.int .u64 (rs:Int)])∧Below W.heap.size W w')
   (c5:∀W,Calls Tryd.prog 68 #[.int .u64 (qh:Int)] W fun r w'=>r=.returned (.int .i64 (mo:Int))∧W=w')
   (hn:((n:Int)==0)=false) (hmo:mo≤64) (hup:up≤64) (e1:IntKind.u64.wrap ((n:Int)*2^up)=(tp:Int)) (e2:IntKind.u64.wrap ((qh:Int)*2^mo)=(a:Int)) (e3:(ql:Int)/2^(64-mo)=(s:Int)) (e4:bits .or .u64 (a:Int) (s:Int)=(m:Int)) (e5:IntKind.u64.wrap ((ql:Int)*2^mo)=(lo:Int))
   (hM:Hid ((lo=0∧rs=0∧M=m)∨(¬(lo=0∧rs=0)∧bits .or .u64 (m:Int) 1=(M:Int)))) (hE:E=-(up:Int)-(mo:Int)) (hg:decide (N<0)=g) (w:World) :
   Calls Tryd.prog 37 #[.agg #[.int .i64 N,.int .i64 D]] w fun r w'=>r=.returned (.agg #[.bool g,.int .u64 (M:Int),.int .i64 E])∧Below w.heap.size w w':=by
 have HB:Below w.heap.size w ((w.alloc (.cells #[.int .i64 N,.int .i64 D] 23)).alloc (.cells #[.bool false,.int .u64 0,.int .i64 0] 71)):=by go_grown
 have X:Has2 ((w.alloc (.cells #[.int .i64 N,.int .i64 D] 23)).alloc (.cells #[.bool false,.int .u64 0,.int .i64 0] 71)) w.heap.size (.int .i64 N) (.int .i64 D):=⟨by go_simp,by go_simp,by go_simp,by go_simp,by go_size⟩
 have Z:Has3 ((w.alloc (.cells #[.int .i64 N,.int .i64 D] 23)).alloc (.cells #[.bool false,.int .u64 0,.int .i64 0] 71)) (w.heap.size+1) (.bool false) (.int .u64 0) (.int .i64 0):=⟨by go_simp,by go_simp,by go_simp,by go_simp,by go_simp,by go_simp,by go_size⟩
 have hn':¬(n:Int)=0:=by simpa using hn
 have hE':Hid (E=-(up:Int)-(mo:Int)):=hE
 clear hE
 go_enter Tryd.func37,Tryd.ntmps37
 go_upto_region 1 with fail
 generalize ((w.alloc (.cells #[.int .i64 N,.int .i64 D] 23)).alloc (.cells #[.bool false,.int .u64 0,.int .i64 0] 71))=V1 at *
 obtain⟨px0,px1,px2,px3,px4⟩:=id X
 go_upto_region 5 with (first | (go_at_call 52;(with_reducible refine (c1 _).mono ?_);rintro _ _ ⟨rfl,rfl⟩) | (go_at_call 68;(with_reducible refine (c3 _).mono ?_);rintro _ _ ⟨rfl,rfl⟩))
 clear px0 px1 px2 px3 px4
 have HD:Below V1.heap.size V1 V1.drew:=(Below.refl _ _).drew
 replace X:=X.keep HD
 replace Z:=Z.keep HD
 replace HB:=later HB HD
 clear HD
 have hbA:Below V1.drew.heap.size V1.drew (V1.alloc (.cells #[.int .u64 0,.int .u64 0] 92)).drew:=grewW V1.drew (.cells #[.int .u64 0,.int .u64 0] 92)
 have XA:=X.keep hbA
 have ZA:=Z.keep hbA
 have HA:=later HB hbA
 have QA:Has2 (V1.alloc (.cells #[.int .u64 0,.int .u64 0] 92)).drew V1.heap.size (.int .u64 0) (.int .u64 0):=has2_new V1.drew (.int .u64 0) (.int .u64 0) 92
 have X0:w.heap.size<V1.heap.size:=X.lt
 have Z0:w.heap.size+1<V1.heap.size:=Z.lt
 have nq0:V1.heap.size≠w.heap.size:=Nat.ne_of_gt X0
 go_region_held3 (fun w'=>w'.cell? ⟨w.heap.size,0,none⟩=some (.int .i64 N)∧w'.cell? ⟨w.heap.size,1,none⟩=some (.int .i64 D)) (first | with_reducible exact⟨X.c0,X.c1⟩ | with_reducible exact⟨XA.c0,XA.c1⟩ | with_reducible exact⟨(X.keep (below_alloc (Below.refl _ _) _)).c0,(X.keep (below_alloc (Below.refl _ _) _)).c1⟩ | with_reducible exact⟨(X.far2 nq _ _).c0,(X.far2 nq _ _).c1⟩ | with_reducible exact⟨((X.keep (below_alloc (Below.refl _ _) _)).far2 nq _ _).c0,((X.keep (below_alloc (Below.refl _ _) _)).far2 nq _ _).c1⟩ | with_reducible exact⟨(X.far2 nq0 _ _).c0,(X.far2 nq0 _ _).c1⟩ | go_keep) (first
   | (go_at_call 52;(with_reducible refine (c2 _).mono ?_);rintro _ _ ⟨rfl,rfl⟩)
   | (go_at_call 69;(with_reducible refine (c4 V1.drew).mono ?_);rintro _ W2 ⟨rfl,hb1⟩;replace X:=X.keep hb1;replace Z:=Z.keep hb1;replace HB:=later HB hb1;have nq:W2.heap.size≠w.heap.size:=Nat.ne_of_gt X.lt;have tg1:True:=trivial;clear hb1)
   | (go_at_call 69;(with_reducible refine (c4 _).mono ?_);rintro _ W2 ⟨rfl,hb1⟩;replace X:=XA.keep hb1;replace Z:=ZA.keep hb1;replace HB:=later HA hb1;have Q:=QA.keep hb1;obtain⟨n0,n1,n2,n3,n4⟩:=id Q;have tg2:True:=trivial;clear hb1))
 · skip
   have Q:=has2_new W2 (.int .u64 (qh:Int)) (.int .u64 (ql:Int)) 92
   replace X:=X.keep (grewW W2 (.cells #[.int .u64 (qh:Int),.int .u64 (ql:Int)] 92))
   replace Z:=Z.keep (grewW W2 (.cells #[.int .u64 (qh:Int),.int .u64 (ql:Int)] 92))
   replace HB:=later HB (grewW W2 (.cells #[.int .u64 (qh:Int),.int .u64 (ql:Int)] 92))
   generalize W2.alloc (.cells #[.int .u64 (qh:Int),.int .u64 (ql:Int)] 92)=V2 at *
   generalize W2.heap.size=bQ at *
   obtain⟨q0,q1,q2,q3,q4⟩:=id Q
   go_upto_region 7 with (go_at_call 68;(with_reducible refine (c5 _).mono ?_);rintro _ _ ⟨rfl,rfl⟩)
   have kQ0:=fun n:Behind V2=>n.cell Q.1 Q.2.2.2.2
   have kQ1:=fun n:Behind V2=>n.cell Q.2.1 Q.2.2.2.2
   clear q0 q1 q2 q3 q4
   refine region_behind (by kernel_rfl) (by kernel_rfl) ?_
   repeat (go_big_quiet_step (fail))
   refine wpQuiet_nil ?_
   rintro _ ⟨m',rfl⟩
   obtain⟨V3,hb1⟩:=m'
   dsimp only
   clear kQ0 kQ1
   replace X:=X.keep hb1
   replace Z:=Z.keep hb1
   replace Q:=Q.keep hb1
   replace HB:=later HB hb1
   clear hb1
   obtain⟨q0,q1,q2,q3,q4⟩:=id Q
   obtain⟨x0,x1,x2,x3,x4⟩:=id X
   obtain⟨z0,z1,z2,z3,z4,z5,z6⟩:=id Z
   have f1:IntKind.i64.wrap (-(up:Int))=-(up:Int):=by rw [IntKind.wrap_i64];omega
   have f2:IntKind.i64.wrap (-(up:Int)-(mo:Int))=E:=by rw [IntKind.wrap_i64,hE'.out];omega
   rcases hM.out with ⟨k1,k2,k3⟩ | ⟨k1,k2⟩
   · subst k1 k2 k3
     go_wp2_with fail
     refine bodyPost_ret (v:=(.agg #[.bool g,.int .u64 (M:Int),.int .i64 E])) (by simp [results,Tryd.results37,go_sem, *]) rfl ⟨rfl, ?_⟩;repeat' (first | (with_reducible exact HB) | (with_reducible refine Below.setCell ?_ ?_ _) | go_size)
   · by_cases k3:lo=0
     · have k4:¬(rs:Int)=0:=by omega
       have k5:((rs:Int) != 0)=true:=by simpa using k4
       subst k3
       go_wp2_with fail
       refine bodyPost_ret (v:=(.agg #[.bool g,.int .u64 (M:Int),.int .i64 E])) (by simp [results,Tryd.results37,go_sem, *]) rfl ⟨rfl, ?_⟩;repeat' (first | (with_reducible exact HB) | (with_reducible refine Below.setCell ?_ ?_ _) | go_size)
     · have k4:¬(lo:Int)=0:=by omega
       have k5:((lo:Int) != 0)=true:=by simpa using k4
       go_wp2_with fail
       refine bodyPost_ret (v:=(.agg #[.bool g,.int .u64 (M:Int),.int .i64 E])) (by simp [results,Tryd.results37,go_sem, *]) rfl ⟨rfl, ?_⟩;repeat' (first | (with_reducible exact HB) | (with_reducible refine Below.setCell ?_ ?_ _) | go_size)
 · skip
   have nz:V1.heap.size≠w.heap.size+1:=Nat.ne_of_gt Z0
   have xx:w.heap.size<V1.heap.size:=X0
   replace Q:=Q.put (.int .u64 (qh:Int)) (.int .u64 (ql:Int))
   replace X:=X.far2 nq0 (.int .u64 (qh:Int)) (.int .u64 (ql:Int))
   replace Z:=Z.far2 nz (.int .u64 (qh:Int)) (.int .u64 (ql:Int))
   replace HB:Below w.heap.size w ((W2.setCell ⟨V1.heap.size,0,none⟩ (.int .u64 (qh:Int))).setCell ⟨V1.heap.size,1,none⟩ (.int .u64 (ql:Int))):=(HB.setCell (by simp;omega) _).setCell (by simp;omega) _
   clear n0 n1 n2 n3 n4
   generalize ((W2.setCell ⟨V1.heap.size,0,none⟩ (.int .u64 (qh:Int))).setCell ⟨V1.heap.size,1,none⟩ (.int .u64 (ql:Int)))=V2 at *
   generalize V1.heap.size=bQ at *
   obtain⟨q0,q1,q2,q3,q4⟩:=id Q
   go_upto_region 7 with (go_at_call 68;(with_reducible refine (c5 _).mono ?_);rintro _ _ ⟨rfl,rfl⟩)
   have kQ0:=fun n:Behind V2=>n.cell Q.1 Q.2.2.2.2
   have kQ1:=fun n:Behind V2=>n.cell Q.2.1 Q.2.2.2.2
   clear q0 q1 q2 q3 q4
   refine region_behind (by kernel_rfl) (by kernel_rfl) ?_
   repeat (go_big_quiet_step (fail))
   refine wpQuiet_nil ?_
   rintro _ ⟨m',rfl⟩
   obtain⟨V3,hb1⟩:=m'
   dsimp only
   clear kQ0 kQ1
   replace X:=X.keep hb1
   replace Z:=Z.keep hb1
   replace Q:=Q.keep hb1
   replace HB:=later HB hb1
   clear hb1
   obtain⟨q0,q1,q2,q3,q4⟩:=id Q
   obtain⟨x0,x1,x2,x3,x4⟩:=id X
   obtain⟨z0,z1,z2,z3,z4,z5,z6⟩:=id Z
   have f1:IntKind.i64.wrap (-(up:Int))=-(up:Int):=by rw [IntKind.wrap_i64];omega
   have f2:IntKind.i64.wrap (-(up:Int)-(mo:Int))=E:=by rw [IntKind.wrap_i64,hE'.out];omega
   rcases hM.out with ⟨k1,k2,k3⟩ | ⟨k1,k2⟩
   · subst k1 k2 k3
     go_wp2_with fail
     refine bodyPost_ret (v:=(.agg #[.bool g,.int .u64 (M:Int),.int .i64 E])) (by simp [results,Tryd.results37,go_sem, *]) rfl ⟨rfl, ?_⟩;repeat' (first | (with_reducible exact HB) | (with_reducible refine Below.setCell ?_ ?_ _) | go_size)
   · by_cases k3:lo=0
     · have k4:¬(rs:Int)=0:=by omega
       have k5:((rs:Int) != 0)=true:=by simpa using k4
       subst k3
       go_wp2_with fail
       refine bodyPost_ret (v:=(.agg #[.bool g,.int .u64 (M:Int),.int .i64 E])) (by simp [results,Tryd.results37,go_sem, *]) rfl ⟨rfl, ?_⟩;repeat' (first | (with_reducible exact HB) | (with_reducible refine Below.setCell ?_ ?_ _) | go_size)
     · have k4:¬(lo:Int)=0:=by omega
       have k5:((lo:Int) != 0)=true:=by simpa using k4
       go_wp2_with fail
       refine bodyPost_ret (v:=(.agg #[.bool g,.int .u64 (M:Int),.int .i64 E])) (by simp [results,Tryd.results37,go_sem, *]) rfl ⟨rfl, ?_⟩;repeat' (first | (with_reducible exact HB) | (with_reducible refine Below.setCell ?_ ?_ _) | go_size)
 · skip
   have nz:V1.heap.size≠w.heap.size+1:=Nat.ne_of_gt Z0
   have xx:w.heap.size<V1.heap.size:=X0
   replace Q:=Q.put (.int .u64 (qh:Int)) (.int .u64 (ql:Int))
   replace X:=X.far2 nq0 (.int .u64 (qh:Int)) (.int .u64 (ql:Int))
   replace Z:=Z.far2 nz (.int .u64 (qh:Int)) (.int .u64 (ql:Int))
   replace HB:Below w.heap.size w ((W2.setCell ⟨V1.heap.size,0,none⟩ (.int .u64 (qh:Int))).setCell ⟨V1.heap.size,1,none⟩ (.int .u64 (ql:Int))):=(HB.setCell (by simp;omega) _).setCell (by simp;omega) _
   clear n0 n1 n2 n3 n4
   generalize ((W2.setCell ⟨V1.heap.size,0,none⟩ (.int .u64 (qh:Int))).setCell ⟨V1.heap.size,1,none⟩ (.int .u64 (ql:Int)))=V2 at *
   generalize V1.heap.size=bQ at *
   obtain⟨q0,q1,q2,q3,q4⟩:=id Q
   go_upto_region 7 with (go_at_call 68;(with_reducible refine (c5 _).mono ?_);rintro _ _ ⟨rfl,rfl⟩)
   have kQ0:=fun n:Behind V2=>n.cell Q.1 Q.2.2.2.2
   have kQ1:=fun n:Behind V2=>n.cell Q.2.1 Q.2.2.2.2
   clear q0 q1 q2 q3 q4
   refine region_behind (by kernel_rfl) (by kernel_rfl) ?_
   repeat (go_big_quiet_step (fail))
   refine wpQuiet_nil ?_
   rintro _ ⟨m',rfl⟩
   obtain⟨V3,hb1⟩:=m'
   dsimp only
   clear kQ0 kQ1
   replace X:=X.keep hb1
   replace Z:=Z.keep hb1
   replace Q:=Q.keep hb1
   replace HB:=later HB hb1
   clear hb1
   obtain⟨q0,q1,q2,q3,q4⟩:=id Q
   obtain⟨x0,x1,x2,x3,x4⟩:=id X
   obtain⟨z0,z1,z2,z3,z4,z5,z6⟩:=id Z
   have f1:IntKind.i64.wrap (-(up:Int))=-(up:Int):=by rw [IntKind.wrap_i64];omega
   have f2:IntKind.i64.wrap (-(up:Int)-(mo:Int))=E:=by rw [IntKind.wrap_i64,hE'.out];omega
   rcases hM.out with ⟨k1,k2,k3⟩ | ⟨k1,k2⟩
   · subst k1 k2 k3
     go_wp2_with fail
     refine bodyPost_ret (v:=(.agg #[.bool g,.int .u64 (M:Int),.int .i64 E])) (by simp [results,Tryd.results37,go_sem, *]) rfl ⟨rfl, ?_⟩;repeat' (first | (with_reducible exact HB) | (with_reducible refine Below.setCell ?_ ?_ _) | go_size)
   · by_cases k3:lo=0
     · have k4:¬(rs:Int)=0:=by omega
       have k5:((rs:Int) != 0)=true:=by simpa using k4
       subst k3
       go_wp2_with fail
       refine bodyPost_ret (v:=(.agg #[.bool g,.int .u64 (M:Int),.int .i64 E])) (by simp [results,Tryd.results37,go_sem, *]) rfl ⟨rfl, ?_⟩;repeat' (first | (with_reducible exact HB) | (with_reducible refine Below.setCell ?_ ?_ _) | go_size)
     · have k4:¬(lo:Int)=0:=by omega
       have k5:((lo:Int) != 0)=true:=by simpa using k4
       go_wp2_with fail
       refine bodyPost_ret (v:=(.agg #[.bool g,.int .u64 (M:Int),.int .i64 E])) (by simp [results,Tryd.results37,go_sem, *]) rfl ⟨rfl, ?_⟩;repeat' (first | (with_reducible exact HB) | (with_reducible refine Below.setCell ?_ ?_ _) | go_size)
theorem rightR_D {N D:Int} (h:rightR N D=true):1≤D:=by
 unfold rightR at h
 simp only [Bool.and_eq_true,decide_eq_true_eq] at h
 exact h.1
theorem T1 {w:World} {b:Nat} {x y z:Value} (h:Has3 w b x y z):w.cell? ⟨b,1,none⟩=some y:=h.2.1
theorem rightR_N {N D:Int} (h:rightR N D=true):N≠-9223372036854775808:=by
 unfold rightR at h
 simp only [Bool.and_eq_true,decide_eq_true_eq] at h
 exact h.2.1
theorem parts_math {tp d mo qh ql rs:Nat} (hd:0<d) (hq:tp*18446744073709551616=(qh*18446744073709551616+ql)*d+rs) (hr:rs<d) (hm:mo<64) :
   qh*2^mo+ql/2^(64-mo)=tp*2^mo/d∧((ql*2^mo%18446744073709551616=0∧rs=0)↔tp*2^mo%d=0):=by
 obtain⟨k,hk⟩:∃k,k=64-mo:=⟨_,rfl⟩
 have e64:2^k*2^mo=18446744073709551616:=by rw [←Nat.pow_add,hk,show 64-mo+mo=64 by omega]
 rw [←hk]
 have pk:=Nat.two_pow_pos k
 have pm:=Nat.two_pow_pos mo
 have s1:=Nat.div_add_mod ql (2^k)
 have s2:=Nat.mod_lt ql pk
 have e1:ql*2^mo%18446744073709551616=ql%2^k*2^mo:=by rw [←e64,Nat.mul_mod_mul_right]
 rw [e1]
 generalize ql/2^k=s at *
 generalize ql%2^k=t at *
 generalize 2^mo=c at *
 generalize 2^k=b at *
 have key:tp*c*b=(qh*c+s)*d*b+(t*d+rs):=by
   have:tp*(b*c)=(qh*(b*c)+(b*s+t))*d+rs:=by rw [e64,s1];exact hq
   grind
 have lt:t*d+rs<d*b:=by
   have:=Nat.mul_le_mul_right d (show t+1≤b by omega)
   rw [Nat.add_mul,Nat.one_mul] at this
   rw [Nat.mul_comm d b]
   omega
 have k2:(qh*c+s)*d≤tp*c:=by
   refine Nat.le_of_mul_le_mul_right (c:=b) ?_ pk
   omega
 obtain⟨z,hz⟩:∃z,tp*c=(qh*c+s)*d+z:=⟨tp*c-(qh*c+s)*d,by omega⟩
 have hzb:z*b=t*d+rs:=by
   rw [hz,Nat.add_mul] at key
   omega
 have hzd:z<d:=by
   refine Nat.lt_of_mul_lt_mul_right (a:=b) ?_
   rw [hzb];exact lt
 have q1:tp*c/d=qh*c+s:=by
   rw [hz,Nat.add_comm,Nat.add_mul_div_right _ _ hd,Nat.div_eq_of_lt hzd,Nat.zero_add]
 have q2:tp*c%d=z:=by
   rw [hz,Nat.add_comm,Nat.add_mul_mod_self_right,Nat.mod_eq_of_lt hzd]
 refine⟨q1.symm, ?_⟩
 rw [q2]
 constructor
 · rintro ⟨h1,h2⟩
   have ht:t=0:=by
     rcases Nat.mul_eq_zero.1 h1 with h | h
     · exact h
     · omega
   rw [ht,h2,Nat.zero_mul] at hzb
   rcases Nat.mul_eq_zero.1 hzb with h | h
   · exact h
   · omega
 · rintro rfl
   rw [Nat.zero_mul] at hzb
   have h1:t*d=0:=by omega
   have h2:rs=0:=by omega
   rcases Nat.mul_eq_zero.1 h1 with h | h
   · rw [h,Nat.zero_mul];exact⟨rfl,h2⟩
   · omega
def parS (n d:Nat):Nat:=shiftN (topN n/d)
def parM (n d:Nat):Nat:=markN (topN n*2^parS n d/d) (decide (topN n*2^parS n d%d≠0))
def parE (n d:Nat):Int:=-((shiftN n:Nat):Int)-((parS n d:Nat):Int)
theorem shift_63 (m:Nat):shiftN m≤63:=by unfold shiftN;omega
theorem par_big {n d:Nat} (hn:n≠0) (hn2:n<9223372036854775808) (hd:0<d) (hd2:d<9223372036854775808):9223372036854775808≤topN n*2^parS n d/d∧topN n*2^parS n d/d<18446744073709551616:=by
 obtain⟨t1,t2⟩:=topN_bounds hn (by omega)
 have q0:topN n/d≠0:=by
   have:=Nat.div_pos (show d≤topN n by omega) hd
   omega
 have q1:topN n/d<18446744073709551616:=Nat.lt_of_le_of_lt (Nat.div_le_self _ _) t2
 obtain⟨b1,b2⟩:=topN_bounds q0 q1
 have e:topN (topN n/d)=topN n/d*2^parS n d:=rfl
 rw [e] at b1 b2
 unfold parS at *
 obtain⟨k,hk⟩:∃k,k=shiftN (topN n/d):=⟨_,rfl⟩
 rw [←hk] at b1 b2 ⊢
 have k63:k≤63:=by rw [hk];exact shift_63 _
 clear hk e
 have h1:=Nat.div_add_mod (topN n) d
 have h2:=Nat.mod_lt (topN n) hd
 generalize topN n=T at *
 generalize T/d=q at *
 generalize T%d=r at *
 have l1:q*2^k≤T*2^k/d:=by
   refine (Nat.le_div_iff_mul_le hd).2 ?_
   have:=Nat.mul_le_mul_right (2^k) (show q*d≤T by rw [Nat.mul_comm];omega)
   rw [Nat.mul_right_comm]
   exact this
 refine⟨Nat.le_trans b1 l1, ?_⟩
 refine (Nat.div_lt_iff_lt_mul hd).2 ?_
 have l2:T<(q+1)*d:=by rw [Nat.add_mul,Nat.one_mul,Nat.mul_comm q d];omega
 have l3:=Nat.mul_lt_mul_of_pos_right l2 (Nat.two_pow_pos k)
 have l4:(q+1)*2^k≤18446744073709551616:=by
   have e:(18446744073709551616:Nat)=2^(64-k)*2^k:=by rw [←Nat.pow_add,show 64-k+k=64 by omega]
   rw [e] at b2 ⊢
   refine Nat.mul_le_mul_right _ ?_
   exact Nat.lt_of_mul_lt_mul_right b2
 have l5:=Nat.mul_le_mul_right d l4
 rw [Nat.mul_right_comm] at l3
 omega
theorem par_lt {n d:Nat} (hn:n≠0) (hn2:n<9223372036854775808) (hd:0<d) (hd2:d<9223372036854775808):parM n d<18446744073709551616:=by
 have:=(par_big hn hn2 hd hd2).2
 unfold parM markN
 split <;> omega
theorem big_cast {X:Nat} (h:X<340282366920938463463374607431768211456):(X:Int)<340282366920938463463374607431768211456:=by omega
theorem parts_w (N D:Int) (hN:I64 N) (hD:I64 D) (nN:N≠-9223372036854775808) (dD:1≤D) (w:World) :
   Calls Tryd.prog 37 #[.agg #[.int .i64 N,.int .i64 D]] w fun r w'=>r=.returned (.agg #[.bool (decide (N<0)),.int .u64 ((if N=0 then 0 else parM N.natAbs D.natAbs:Nat):Int),.int .i64 (if N=0 then 0 else parE N.natAbs D.natAbs)])∧Below w.heap.size w w':=by
 obtain⟨a1,a2⟩:=hN
 obtain⟨b1,b2⟩:=hD
 by_cases c:N=0
 · subst c
   exact parts_zero D w (fun W=>ramount_w 0 (by decide) (by decide) W)
 · rw [if_neg c,if_neg c]
   have hn0:N.natAbs≠0:=by omega
   have hn2:N.natAbs<9223372036854775808:=by omega
   have hd0:0<D.natAbs:=by omega
   have hd2:D.natAbs<9223372036854775808:=by omega
   obtain⟨t1,t2⟩:=topN_bounds hn0 (by omega)
   have bg:=par_big hn0 hn2 hd0 hd2
   have c1:=fun W=>ramount_w N a1 a2 W
   have c2:=fun W=>ramount_w D b1 b2 W
   have c3:=fun W=>lz_w N.natAbs hn0 (by omega) W
   have f1:IntKind.u64.wrap ((N.natAbs:Int)*2^shiftN N.natAbs)=((topN N.natAbs:Nat):Int):=by
     have e1:(N.natAbs:Int)*2^shiftN N.natAbs=((topN N.natAbs:Nat):Int):=by unfold topN;simp
     rw [e1,IntKind.wrap_u64];omega
   have hE:parE N.natAbs D.natAbs=-((shiftN N.natAbs:Nat):Int)-((parS N.natAbs D.natAbs:Nat):Int):=rfl
   have s1:=shift_63 N.natAbs
   have s2:parS N.natAbs D.natAbs≤63:=shift_63 _
   have hM:parM N.natAbs D.natAbs=markN (topN N.natAbs*2^parS N.natAbs D.natAbs/D.natAbs) (decide (topN N.natAbs*2^parS N.natAbs D.natAbs%D.natAbs≠0)):=rfl
   have hS:parS N.natAbs D.natAbs=shiftN (topN N.natAbs/D.natAbs):=rfl
   have hz:shiftN N.natAbs=63-N.natAbs.log2:=rfl
   rw [←hz] at c3
   clear hz
   generalize parE N.natAbs D.natAbs=E at *
   generalize parM N.natAbs D.natAbs=M at *
   generalize parS N.natAbs D.natAbs=mo at *
   generalize topN N.natAbs=tp at *
   generalize shiftN N.natAbs=up at *
   generalize N.natAbs=n at *
   generalize D.natAbs=d at *
   obtain⟨qh,ql,Q⟩:=sg_ex (((tp*18446744073709551616+0)/d:Nat):Int)
   have c4:=fun W=>wby_w tp 0 d qh ql t2 (by decide) hd0 (by omega) Q W
   have q0:(tp*18446744073709551616+0)/d<340282366920938463463374607431768211456:=Nat.lt_of_le_of_lt (Nat.div_le_self _ _) (by omega)
   have Qn:=Q.nat (Int.natCast_nonneg _) (big_cast q0)
   have Qn':qh*18446744073709551616+ql=(tp*18446744073709551616+0)/d:=Int.ofNat.inj Qn
   obtain⟨k1,k2, -⟩:=Q
   have dm:=Nat.div_add_mod (tp*18446744073709551616+0) d
   have dl:=Nat.mod_lt (tp*18446744073709551616+0) hd0
   rw [←Qn'] at dm
   have hqh:qh=tp/d:=by
     have e1:(qh*18446744073709551616+ql)/18446744073709551616=qh:=by omega
     rw [Qn',Nat.add_zero,Nat.div_div_eq_div_mul,Nat.mul_comm d,←Nat.div_div_eq_div_mul,Nat.mul_div_cancel _ (by decide)] at e1
     exact e1.symm
   generalize (tp*18446744073709551616+0)%d=rs at *
   obtain⟨p1,p2⟩:=parts_math (mo:=mo) hd0 (show tp*18446744073709551616=(qh*18446744073709551616+ql)*d+rs by rw [Nat.mul_comm _ d];exact (dm.trans (Nat.add_zero _)).symm) dl (by omega)
   have qz:qh≠0:=by
     rw [hqh]
     have:=Nat.div_pos (show d≤tp by omega) hd0
     omega
   have c5:=fun W=>lz_w qh qz k1 W
   have hz:mo=63-qh.log2:=by rw [hS,hqh];rfl
   rw [←hz] at c5
   have tb:=topN_bounds qz k1
   have te:topN qh=qh*2^mo:=by unfold topN;rw [show shiftN qh=mo by rw [hS,hqh]]
   rw [te] at tb
   have lo:ql/2^(64-mo)<2^mo:=by
     refine (Nat.div_lt_iff_lt_mul (Nat.two_pow_pos _)).2 ?_
     rw [←Nat.pow_add,show mo+(64-mo)=64 by omega]
     exact k2
   have or1:qh*2^mo ||| ql/2^(64-mo)=qh*2^mo+ql/2^(64-mo):=by
     have:=Nat.two_pow_add_eq_or_of_lt lo qh
     rw [Nat.mul_comm (2^mo) qh] at this
     exact this.symm
   have or2:=u64_or_nat (qh*2^mo) (ql/2^(64-mo)) tb.2 (by omega)
   rw [or1,p1] at or2
   refine parts_core N D E n d up tp qh ql rs mo (qh*2^mo) (ql/2^(64-mo)) (tp*2^mo/d) (ql*2^mo%18446744073709551616) M (decide (N<0)) c1 c2 c3 c4 c5 (by simpa using hn0) (by omega) (by omega) f1 ?_ ?_ or2 ?_ ?_ hE rfl w
   · rw [IntKind.wrap_u64]
     have e1:(qh:Int)*2^mo=((qh*2^mo:Nat):Int):=by simp
     rw [e1];omega
   · have:((2:Int)^(64-mo))=((2^(64-mo):Nat):Int):=by simp
     rw [this,←Int.natCast_ediv]
   · rw [IntKind.wrap_u64]
     have e1:(ql:Int)*2^mo=((ql*2^mo:Nat):Int):=by simp
     rw [e1];omega
   · show (_∧_∧_)∨(_∧_)
     by_cases z:tp*2^mo%d=0
     · obtain⟨z1,z2⟩:=p2.2 z
       refine Or.inl ⟨z1,z2, ?_⟩
       rw [hM,z];rfl
     · refine Or.inr ⟨fun q=>z (p2.1 q), ?_⟩
       rw [show (1:Int)=((1:Nat):Int) from rfl,u64_or_nat _ 1 bg.2 (by decide),or_one,hM,decide_eq_true z]
       rfl
set_option maxHeartbeats 2000000 in
theorem hold_bad (N D:Int)
   (r1:∀W,Calls Tryd.prog 31 #[.agg #[.int .i64 N,.int .i64 D]] W fun r w'=>r=.returned (.bool false)∧Below W.heap.size W w') (w:World) :
   Calls Tryd.prog 13 #[.agg #[.int .i64 N,.int .i64 D]] w fun r w'=>r=.returned (.agg #[.float .f64 (infI 1),.float .f64 (infI (-1))])∧Below w.heap.size w w':=by
 have HB:Below w.heap.size w ((w.alloc (.cells #[.int .i64 N,.int .i64 D] 23)).alloc (.cells #[.float .f64 0,.float .f64 0] 32)):=by go_grown
 have X:Has2 ((w.alloc (.cells #[.int .i64 N,.int .i64 D] 23)).alloc (.cells #[.float .f64 0,.float .f64 0] 32)) w.heap.size (.int .i64 N) (.int .i64 D):=⟨by go_simp,by go_simp,by go_simp,by go_simp,by go_size⟩
 have Z:Has2 ((w.alloc (.cells #[.int .i64 N,.int .i64 D] 23)).alloc (.cells #[.float .f64 0,.float .f64 0] 32)) (w.heap.size+1) (.float .f64 0) (.float .f64 0):=⟨by go_simp,by go_simp,by go_simp,by go_simp,by go_size⟩
 have ce:=fun W=>empty_w W
 go_enter Tryd.func13,Tryd.ntmps13
 go_upto_region 1 with fail
 generalize ((w.alloc (.cells #[.int .i64 N,.int .i64 D] 23)).alloc (.cells #[.float .f64 0,.float .f64 0] 32))=V1 at *
 obtain⟨px0,px1,px2,px3,px4⟩:=id X;obtain⟨pz0,pz1,pz2,pz3,pz4⟩:=id Z
 go_wp2_with (first | (go_at_call 31;(with_reducible refine (r1 _).mono ?_);rintro _ W1 ⟨rfl,hb1⟩;replace X:=X.keep hb1;replace Z:=Z.keep hb1;replace HB:=later HB hb1;clear hb1;obtain⟨qx0,qx1,qx2,qx3,qx4⟩:=id X;obtain⟨qz0,qz1,qz2,qz3,qz4⟩:=id Z) | (go_at_call 36;(with_reducible refine (ce _).mono ?_);rintro _ W2 ⟨rfl,hb1⟩;replace X:=X.keep hb1;replace Z:=Z.keep hb1;replace HB:=later HB hb1;clear hb1;obtain⟨rx0,rx1,rx2,rx3,rx4⟩:=id X;obtain⟨rz0,rz1,rz2,rz3,rz4⟩:=id Z))
 refine bodyPost_ret (v:=.agg #[.float .f64 (infI 1),.float .f64 (infI (-1))]) (by simp [results,Tryd.results13,go_sem, *]) rfl ⟨rfl, ?_⟩;repeat' (first | (with_reducible exact HB) | (with_reducible refine Below.setCell ?_ ?_ _) | go_size)
set_option maxHeartbeats 2000000 in
theorem hold_core (N D E:Int) (M r1 r2 lo hi:Nat) (g:Bool)
   (c1:∀W,Calls Tryd.prog 31 #[.agg #[.int .i64 N,.int .i64 D]] W fun r w'=>r=.returned (.bool true)∧Below W.heap.size W w')
   (c2:∀W,Calls Tryd.prog 37 #[.agg #[.int .i64 N,.int .i64 D]] W fun r w'=>r=.returned (.agg #[.bool g,.int .u64 (M:Int),.int .i64 E])∧Below W.heap.size W w')
   (c3:∀W,Calls Tryd.prog 39 #[.agg #[.bool g,.int .u64 (M:Int),.int .i64 E],.int .i64 (-1)] W fun r w'=>r=.returned (.float .f64 r1)∧Below W.heap.size W w')
   (c4:∀W,Calls Tryd.prog 39 #[.agg #[.bool g,.int .u64 (M:Int),.int .i64 E],.int .i64 1] W fun r w'=>r=.returned (.float .f64 r2)∧Below W.heap.size W w')
   (c5:∀W,Calls Tryd.prog 38 #[.float .f64 r1,.float .f64 r2] W fun r w'=>r=.returned (.agg #[.float .f64 lo,.float .f64 hi])∧Below W.heap.size W w') (w:World) :
   Calls Tryd.prog 13 #[.agg #[.int .i64 N,.int .i64 D]] w fun r w'=>r=.returned (.agg #[.float .f64 lo,.float .f64 hi])∧Below w.heap.size w w':=by
 have HB:Below w.heap.size w ((w.alloc (.cells #[.int .i64 N,.int .i64 D] 23)).alloc (.cells #[.float .f64 0,.float .f64 0] 32)):=by go_grown
 have X:Has2 ((w.alloc (.cells #[.int .i64 N,.int .i64 D] 23)).alloc (.cells #[.float .f64 0,.float .f64 0] 32)) w.heap.size (.int .i64 N) (.int .i64 D):=⟨by go_simp,by go_simp,by go_simp,by go_simp,by go_size⟩
 have Z:Has2 ((w.alloc (.cells #[.int .i64 N,.int .i64 D] 23)).alloc (.cells #[.float .f64 0,.float .f64 0] 32)) (w.heap.size+1) (.float .f64 0) (.float .f64 0):=⟨by go_simp,by go_simp,by go_simp,by go_simp,by go_size⟩
 go_enter Tryd.func13,Tryd.ntmps13
 go_upto_region 1 with fail
 generalize ((w.alloc (.cells #[.int .i64 N,.int .i64 D] 23)).alloc (.cells #[.float .f64 0,.float .f64 0] 32))=V1 at *
 obtain⟨px0,px1,px2,px3,px4⟩:=id X;obtain⟨pz0,pz1,pz2,pz3,pz4⟩:=id Z
 go_upto_region 4 with (first | (go_at_call 31;(with_reducible refine (c1 _).mono ?_);rintro _ W1 ⟨rfl,hb1⟩;replace X:=X.keep hb1;replace Z:=Z.keep hb1;replace HB:=later HB hb1;clear hb1;obtain⟨qx0,qx1,qx2,qx3,qx4⟩:=id X;obtain⟨qz0,qz1,qz2,qz3,qz4⟩:=id Z) | (go_at_call 37;(with_reducible refine (c2 _).mono ?_);rintro _ W2 ⟨rfl,hb1⟩;replace X:=X.keep hb1;replace Z:=Z.keep hb1;replace HB:=later HB hb1;clear hb1;obtain⟨rx0,rx1,rx2,rx3,rx4⟩:=id X;obtain⟨rz0,rz1,rz2,rz3,rz4⟩:=id Z))
 clear px0 px1 px2 px3 px4 pz0 pz1 pz2 pz3 pz4
 clear qx0 qx1 qx2 qx3 qx4 qz0 qz1 qz2 qz3 qz4
 clear rx0 rx1 rx2 rx3 rx4 rz0 rz1 rz2 rz3 rz4
 replace Z:=Z.keep (grewW W2 (.cells #[.bool g,.int .u64 (M:Int),.int .i64 E] 71))
 replace HB:=later HB (grewW W2 (.cells #[.bool g,.int .u64 (M:Int),.int .i64 E] 71))
 have P:Has3 (W2.alloc (.cells #[.bool g,.int .u64 (M:Int),.int .i64 E] 71)) W2.heap.size (.bool g) (.int .u64 (M:Int)) (.int .i64 E):=⟨by go_simp,by go_simp,by go_simp,by go_simp,by go_simp,by go_simp,by go_size⟩
 clear X
 generalize (W2.alloc (.cells #[.bool g,.int .u64 (M:Int),.int .i64 E] 71))=V3 at *
 generalize W2.heap.size=bP at *
 have kP0:=fun n:Behind V3=>n.cell P.1 P.2.2.2.2.2.2
 have kP1:=fun n:Behind V3=>n.cell P.2.1 P.2.2.2.2.2.2
 have kP2:=fun n:Behind V3=>n.cell P.2.2.1 P.2.2.2.2.2.2
 refine tail_behind 5 (by kernel_rfl) (by kernel_rfl) ?_
 simp only [List.take_succ_cons,List.take_zero,List.drop_succ_cons,List.drop_zero]
 repeat (go_big_quiet_step (first | (go_at_call 39;with_reducible refine Behind.call (c3 _)) | (go_at_call 39;with_reducible refine Behind.call (c4 _)) | (go_at_call 38;with_reducible refine Behind.call (c5 _))))
 refine wpQuiet_nil ?_
 rintro _ ⟨m',rfl⟩
 obtain⟨V4,hb1⟩:=m'
 dsimp only
 clear kP0 kP1 kP2
 replace Z:=Z.keep hb1
 replace HB:=later HB hb1
 clear hb1
 obtain⟨z0,z1,z2,z3,z4⟩:=id Z
 go_wp2_with fail
 refine bodyPost_ret (v:=.agg #[.float .f64 lo,.float .f64 hi]) (by simp [results,Tryd.results13,go_sem, *]) rfl ⟨rfl, ?_⟩;repeat' (first | (with_reducible exact HB) | (with_reducible refine Below.setCell ?_ ?_ _) | go_size)
def holdM (N D:Int):Nat:=if N=0 then 0 else parM N.natAbs D.natAbs
def holdE (N D:Int):Int:=if N=0 then 0 else parE N.natAbs D.natAbs
def holdP (N D:Int):Nat×Nat:=if rightR N D then makeP (roundN (decide (N<0)) (holdM N D) (holdE N D) (-1)) (roundN (decide (N<0)) (holdM N D) (holdE N D) 1) else (infI 1,infI (-1))
theorem holdM_lt {N D:Int} (h:rightR N D=true) (hN:I64 N) (hD:I64 D):holdM N D<18446744073709551616:=by
 have d1:=rightR_D h
 have n1:=rightR_N h
 obtain⟨a1,a2⟩:=hN
 obtain⟨b1,b2⟩:=hD
 unfold holdM
 by_cases c:N=0
 · rw [if_pos c];omega
 · rw [if_neg c]
   exact par_lt (by omega) (by omega) (by omega) (by omega)
theorem holdRat_w (N D:Int) (hN:I64 N) (hD:I64 D) (w:World) :
   Calls Tryd.prog 13 #[.agg #[.int .i64 N,.int .i64 D]] w fun r w'=>r=.returned (.agg #[.float .f64 (holdP N D).1,.float .f64 (holdP N D).2])∧Below w.heap.size w w':=by
 have r1:=fun W=>rright_w11 N D hN hD W
 cases h:rightR N D
 · have e:holdP N D=(infI 1,infI (-1)):=by unfold holdP;rw [h];rfl
   rw [e]
   rw [h] at r1
   exact hold_bad N D r1 w
 · have e:holdP N D=makeP (roundN (decide (N<0)) (holdM N D) (holdE N D) (-1)) (roundN (decide (N<0)) (holdM N D) (holdE N D) 1):=by unfold holdP;rw [h];rfl
   rw [e]
   rw [h] at r1
   have lt:=holdM_lt h hN hD
   exact hold_core N D (holdE N D) (holdM N D) _ _ _ _ (decide (N<0)) r1 (fun W=>parts_w N D hN hD (rightR_N h) (rightR_D h) W) (fun W=>round_w _ _ _ _ lt W) (fun W=>round_w _ _ _ _ lt W)
     (fun W=>make_w _ _ (roundN_facts _ _ _ _ lt).2.2 (roundN_facts _ _ _ _ lt).2.2 W) w
theorem index_w (x:Nat) (hx:x<18446744073709551616) (w:World) :
   Calls Tryd.prog 145 #[.float .f64 x] w fun e w'=>e=.returned (.int .i64 (key x))∧w=w':=by
 unfold key
 by_cases h:x<9223372036854775808
 · have h':((x:Int)/9223372036854775808==1)=false:=by simp;omega
   rw [if_pos h]
   have hw:wrap64 (x:Int)=x:=by rw [wrap64];omega
   go_enter Tryd.func145,Tryd.ntmps145
   go_wp2
   all_goals (go_ret;exact⟨rfl,rfl⟩)
 · have h':((x:Int)/9223372036854775808==1)=true:=by simp;omega
   rw [if_neg h]
   go_enter Tryd.func145,Tryd.ntmps145
   go_wp2
   all_goals (go_ret;refine⟨?_,rfl⟩)
   all_goals
     show Ending.returned (Value.int IntKind.i64 _)=_
     congr 2
     omega
theorem at_w (i:Int) (h1:-9223372036854775807≤i) (h2:i≤9223372036854775807) (w:World) :
   Calls Tryd.prog 82 #[.int .i64 i] w fun e w'=>e=.returned (.float .f64 (ofKey i))∧w=w':=by
 unfold ofKey
 by_cases h:i<0
 · rw [if_pos h]
   go_enter Tryd.func82,Tryd.ntmps82
   go_wp2
   all_goals (go_ret;refine⟨?_,rfl⟩)
   all_goals
     show Ending.returned (Value.float FloatKind.f64 _)=_
     congr 2
     omega
 · rw [if_neg h]
   go_enter Tryd.func82,Tryd.ntmps82
   go_wp2
   all_goals (go_ret;exact⟨rfl,rfl⟩)
set_option maxHeartbeats 1000000 in
theorem rsplit_infn (x a:Nat) (ci:∀w,Calls Tryd.prog 145 #[.float .f64 x] w fun e w'=>e=.returned (.int .i64 (-(a:Int)))∧w=w')
   (h1:9218868437227405311<(a:Int)) (h2:(a:Int)≤9223372036854775807) (w:World) :
   Calls Tryd.prog 126 #[.float .f64 x] w fun r w'=>r=.returned (.tuple #[.agg #[.bool false,.int .u64 0,.int .i64 0],.bool false])∧Below w.heap.size w w':=by
 go_enter Tryd.func126,Tryd.ntmps126
 go_wp2_with (go_at_call 145;refine (ci _).mono ?_;rintro _ _ ⟨rfl,rfl⟩)
 refine bodyPost_ret (v:=.tuple #[.agg #[.bool false,.int .u64 0,.int .i64 0],.bool false]) (by simp [results,Tryd.results126,go_sem]) rfl ⟨rfl,by go_grown⟩
set_option maxHeartbeats 1000000 in
theorem rsplit_subn (x a m:Nat) (ci:∀w,Calls Tryd.prog 145 #[.float .f64 x] w fun e w'=>e=.returned (.int .i64 (-(a:Int)))∧w=w')
   (h0:0<(a:Int)) (h1:(a:Int)≤9218868437227405311) (e0:((a:Int)==0)=false) (e1:(a:Int)%4503599627370496=(m:Int)) (e2:(a:Int)/4503599627370496=0) (w:World) :
   Calls Tryd.prog 126 #[.float .f64 x] w fun r w'=>r=.returned (.tuple #[.agg #[.bool true,.int .u64 (m:Int),.int .i64 (-1074)],.bool true])∧Below w.heap.size w w':=by
 go_enter Tryd.func126,Tryd.ntmps126
 go_wp2_with (go_at_call 145;refine (ci _).mono ?_;rintro _ _ ⟨rfl,rfl⟩)
 refine bodyPost_ret (v:=.tuple #[.agg #[.bool true,.int .u64 (m:Int),.int .i64 (-1074)],.bool true]) (by simp [results,Tryd.results126,go_sem]) rfl ⟨rfl,by go_grown⟩
set_option maxHeartbeats 1000000 in
theorem rsplit_norn (x a m ex:Nat) (ci:∀w,Calls Tryd.prog 145 #[.float .f64 x] w fun e w'=>e=.returned (.int .i64 (-(a:Int)))∧w=w')
   (h0:0<(a:Int)) (h1:(a:Int)≤9218868437227405311) (e0:((a:Int)==0)=false) (e1:(a:Int)%4503599627370496=(m:Int)) (e2:(a:Int)/4503599627370496=(ex:Int)) (e3:((ex:Int)==0)=false) (M:Nat) (E:Int) (e4:IntKind.u64.wrap ((m:Int)+4503599627370496)=(M:Int)) (e5:IntKind.i64.wrap ((ex:Int)-1075)=E) (e6:IntKind.i64.wrap (ex:Int)=(ex:Int)) (w:World) :
   Calls Tryd.prog 126 #[.float .f64 x] w fun r w'=>r=.returned (.tuple #[.agg #[.bool true,.int .u64 (M:Int),.int .i64 E],.bool true])∧Below w.heap.size w w':=by
 go_enter Tryd.func126,Tryd.ntmps126
 go_wp2_with (go_at_call 145;refine (ci _).mono ?_;rintro _ _ ⟨rfl,rfl⟩)
 refine bodyPost_ret (v:=.tuple #[.agg #[.bool true,.int .u64 (M:Int),.int .i64 E],.bool true]) (by simp [results,Tryd.results126,go_sem]) rfl ⟨rfl,by go_grown⟩
set_option maxHeartbeats 1000000 in
theorem rsplit_subp (x a m:Nat) (ci:∀w,Calls Tryd.prog 145 #[.float .f64 x] w fun e w'=>e=.returned (.int .i64 (a:Int))∧w=w')
   (h0:0<(a:Int)) (h1:(a:Int)≤9218868437227405311) (e0:((a:Int)==0)=false) (e1:(a:Int)%4503599627370496=(m:Int)) (e2:(a:Int)/4503599627370496=0) (w:World) :
   Calls Tryd.prog 126 #[.float .f64 x] w fun r w'=>r=.returned (.tuple #[.agg #[.bool false,.int .u64 (m:Int),.int .i64 (-1074)],.bool true])∧Below w.heap.size w w':=by
 go_enter Tryd.func126,Tryd.ntmps126
 go_wp2_with (go_at_call 145;refine (ci _).mono ?_;rintro _ _ ⟨rfl,rfl⟩)
 refine bodyPost_ret (v:=.tuple #[.agg #[.bool false,.int .u64 (m:Int),.int .i64 (-1074)],.bool true]) (by simp [results,Tryd.results126,go_sem]) rfl ⟨rfl,by go_grown⟩
set_option maxHeartbeats 1000000 in
theorem rsplit_norp (x a m ex:Nat) (ci:∀w,Calls Tryd.prog 145 #[.float .f64 x] w fun e w'=>e=.returned (.int .i64 (a:Int))∧w=w')
   (h0:0<(a:Int)) (h1:(a:Int)≤9218868437227405311) (e0:((a:Int)==0)=false) (e1:(a:Int)%4503599627370496=(m:Int)) (e2:(a:Int)/4503599627370496=(ex:Int)) (e3:((ex:Int)==0)=false) (M:Nat) (E:Int) (e4:IntKind.u64.wrap ((m:Int)+4503599627370496)=(M:Int)) (e5:IntKind.i64.wrap ((ex:Int)-1075)=E) (e6:IntKind.i64.wrap (ex:Int)=(ex:Int)) (w:World) :
   Calls Tryd.prog 126 #[.float .f64 x] w fun r w'=>r=.returned (.tuple #[.agg #[.bool false,.int .u64 (M:Int),.int .i64 E],.bool true])∧Below w.heap.size w w':=by
 go_enter Tryd.func126,Tryd.ntmps126
 go_wp2_with (go_at_call 145;refine (ci _).mono ?_;rintro _ _ ⟨rfl,rfl⟩)
 refine bodyPost_ret (v:=.tuple #[.agg #[.bool false,.int .u64 (M:Int),.int .i64 E],.bool true]) (by simp [results,Tryd.results126,go_sem]) rfl ⟨rfl,by go_grown⟩
set_option maxHeartbeats 1000000 in
theorem rsplit_zero (x:Nat) (ci:∀w,Calls Tryd.prog 145 #[.float .f64 x] w fun e w'=>e=.returned (.int .i64 0)∧w=w')
    (w:World) :
   Calls Tryd.prog 126 #[.float .f64 x] w fun r w'=>r=.returned (.tuple #[.agg #[.bool false,.int .u64 0,.int .i64 0],.bool true])∧Below w.heap.size w w':=by
 go_enter Tryd.func126,Tryd.ntmps126
 go_wp2_with (go_at_call 145;refine (ci _).mono ?_;rintro _ _ ⟨rfl,rfl⟩)
 refine bodyPost_ret (v:=.tuple #[.agg #[.bool false,.int .u64 0,.int .i64 0],.bool true]) (by simp [results,Tryd.results126,go_sem]) rfl ⟨rfl,by go_grown⟩
theorem key_parts {x:Nat} (hx:x<18446744073709551616):x%9223372036854775808=0∧key x=0∨x%9223372036854775808≠0∧splitG x=true∧key x=-((x%9223372036854775808:Nat):Int)∨x%9223372036854775808≠0∧splitG x=false∧key x=((x%9223372036854775808:Nat):Int):=by
 unfold key splitG
 by_cases h0:x%9223372036854775808=0
 · left;refine⟨h0, ?_⟩;split <;> omega
 · right
   by_cases h1:x<9223372036854775808
   · right;refine⟨h0,by simp;omega, ?_⟩;rw [if_pos h1];omega
   · left;refine⟨h0,by simp;omega, ?_⟩;rw [if_neg h1];omega
theorem rsplit_w (x:Nat) (hx:x<18446744073709551616) (hf:finB x=true) (w:World) :
   Calls Tryd.prog 126 #[.float .f64 x] w fun r w'=>r=.returned (.tuple #[.agg #[.bool (splitG x),.int .u64 (splitM x),.int .i64 (splitE x)],.bool true])∧Below w.heap.size w w':=by
 have ci:=fun w=>index_w x hx w
 have hr:x%9223372036854775808<9218868437227405312:=by simpa [finB] using hf
 rcases key_parts hx with ⟨h0,hk⟩ | ⟨h0,hg,hk⟩ | ⟨h0,hg,hk⟩
 · have e1:splitG x=false:=by unfold splitG;simp;omega
   have e2:splitM x=0:=by unfold splitM;rw [if_pos (by omega),h0]
   have e3:splitE x=0:=by unfold splitE;rw [if_pos h0]
   rw [e1,e2,e3]
   rw [hk] at ci
   exact rsplit_zero x ci w
 all_goals
   rw [hk] at ci
   rw [hg]
   have em:x%4503599627370496=x%9223372036854775808%4503599627370496:=by omega
   unfold splitM splitE
   rw [if_neg h0,em]
   generalize x%9223372036854775808=a at *
   have e0:((a:Int)==0)=false:=by rw [beq_eq_false_iff_ne];omega
   by_cases hs:a<4503599627370496
   · rw [if_pos hs,show a/4503599627370496=0 by omega]
     first
       | exact rsplit_subn x a a ci (by omega) (by omega) e0 (by omega) (by omega) w
       | exact rsplit_subp x a a ci (by omega) (by omega) e0 (by omega) (by omega) w
   · rw [if_neg hs]
     have w1:IntKind.u64.wrap (((a%4503599627370496:Nat):Int)+4503599627370496)=((4503599627370496+a%4503599627370496:Nat):Int):=by rw [IntKind.wrap_u64];omega
     have w2:IntKind.i64.wrap (((a/4503599627370496:Nat):Int)-1075)=-1074+((a/4503599627370496-1:Nat):Int):=by rw [IntKind.wrap_i64];omega
     have w3:IntKind.i64.wrap ((a/4503599627370496:Nat):Int)=((a/4503599627370496:Nat):Int):=by rw [IntKind.wrap_i64];omega
     have e3:(((a/4503599627370496:Nat):Int)==0)=false:=by rw [beq_eq_false_iff_ne];omega
     first
       | exact rsplit_norn x a _ _ ci (by omega) (by omega) e0 (by omega) (by omega) e3 _ _ w1 w2 w3 w
       | exact rsplit_norp x a _ _ ci (by omega) (by omega) e0 (by omega) (by omega) e3 _ _ w1 w2 w3 w
set_option maxHeartbeats 1000000 in
theorem float_core (x m:Nat) (g:Bool) (e:Int) (cs:∀w,Calls Tryd.prog 126 #[.float .f64 x] w fun r w'=>r=.returned (.tuple #[.agg #[.bool g,.int .u64 m,.int .i64 e],.bool true])∧Below w.heap.size w w')
   (co:∀w,Calls Tryd.prog 26 #[.int .u64 m] w fun e w'=>(∃v',e=.returned v'∧BigIs w' v' m)∧Below w.heap.size w w') (w:World) :
   Calls Tryd.prog 81 #[.float .f64 x] w fun r w'=>(∃v,r=.returned (.agg #[.bool g,v,.int .i64 e])∧BigIs w' v m)∧Below w.heap.size w w':=by
 go_enter Tryd.func81,Tryd.ntmps81
 go_upto_region 2 with
  (go_at_call 126;refine (cs _).mono ?_;rintro _ w1 ⟨rfl,hb1⟩
   have R:Has3 w1 w.heap.size (.bool false) (.slice none 0 0) (.int .i64 0):=Has3.keep ⟨by go_simp,by go_simp,by go_simp,by go_simp,by go_simp,by go_simp,by go_size⟩ hb1
   have B:=(Boxed.new w #[.bool false,.slice none 0 0,.int .i64 0]).keep hb1
   have HB:Below w.heap.size w w1:=later (by go_grown) hb1)
 have hlt:=R.2.2.2.2.2.2
 have hz:Below w1.heap.size w1 (w1.alloc (.cells #[.bool g,.int .u64 m,.int .i64 e] 71)).drew:=by go_grown
 have X:Has3 (w1.alloc (.cells #[.bool g,.int .u64 m,.int .i64 e] 71)).drew w1.heap.size (.bool g) (.int .u64 m) (.int .i64 e):=⟨by go_simp,by go_simp,by go_simp,by go_simp,by go_simp,by go_simp,by go_size⟩
 replace R:=R.keep hz
 replace B:=B.keep hz
 replace HB:=later HB hz
 have ne1:w.heap.size≠w1.heap.size:=by omega
 go_region_held3 (fun w'=>w'.cell? ⟨w1.heap.size,0,none⟩=some (.bool g)∧w'.cell? ⟨w1.heap.size,1,none⟩=some (.int .u64 m)∧w'.cell? ⟨w1.heap.size,2,none⟩=some (.int .i64 e)) (first | exact⟨X.1,X.2.1,X.2.2.1⟩ | exact⟨(X.far ne1 _ _ _).1,(X.far ne1 _ _ _).2.1,(X.far ne1 _ _ _).2.2.1⟩ | go_keep)
   ((go_at_call 26;refine (co _).mono ?_;rintro _ w6 ⟨⟨v3,rfl,hv3⟩,hb6⟩
     obtain⟨o3,l3,p3,rfl, -⟩:=hv3.shape
     replace X:=X.keep hb6
     replace R:=R.keep hb6
     replace B:=B.keep hb6
     replace HB:=later HB hb6
     obtain⟨z0,z1,z2,z3,z4,z5,z6⟩:=R))
 all_goals
   go_wp2_with fail
   refine bodyPost_ret (v:=.agg #[.bool g,.slice o3 l3 p3,.int .i64 e]) (by simp [results,Tryd.results81,go_sem, *]) rfl ⟨⟨_,rfl, ?_⟩, ?_⟩
   all_goals repeat' (first | (with_reducible exact hv3) | (with_reducible exact HB) | (with_reducible exact B) | (with_reducible refine BigIs.put ?_ ?_ _ _) | (with_reducible refine Boxed.set ?_ _ _ _) | (with_reducible refine Below.setCell ?_ ?_ _) | go_size)
theorem float_z (x:Nat) (hx:x<18446744073709551616) (hf:finB x=true) (w:World) :
   Calls Tryd.prog 81 #[.float .f64 x] w fun r w'=>(∃v,r=.returned v∧NumZ (-1074) 971 53 w' v (V (key x)))∧Below w.heap.size w w':=by
 have hb:=splitE_bounds hf
 have hm:=splitM_lt x
 refine (float_core x (splitM x) (splitG x) (splitE x) (fun w=>rsplit_w x hx hf w) (fun w=>of_w (splitM x) (by omega) w) w).mono ?_
 rintro _ w' ⟨⟨v,rfl,hv⟩,hB⟩
 refine⟨⟨_,rfl,splitG x,v,splitM x,splitE x,rfl,hv,hm,hb.1,hb.2, ?_⟩,hB⟩
 rw [signed_val hx hf]
 unfold sgnd
 rw [show splitE x - -1074=splitE x+1074 by omega]
end Go.Proofs.YtgocelaghggpmaaDoor
