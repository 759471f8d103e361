/- Print of a quotient: the program's and the document's; strconv by its contracts. -/
import Derived.Test.YtgocelaghggpmaaDoorKt21
import Derived.Test.YtgocelaghggpmaaDoorKt20
import Derived.Test.YtgocelaghggpmaaDoorShelf
import Derived.Lib.AppendIntMem
import Derived.Lib.ItoaLen
namespace Go.Proofs.YtgocelaghggpmaaDoor
open Go.ChangeShapes Go.WideShapes Go.ChangeAt Go.RowKit
def Pow10 (w:World):Prop:=Lib.TabBelow Tryd.prog w.heap.size w "internal/strconv.uint64pow10" .u64 Lib.pow10Tab
theorem Pow10.on {w W:World} (h:Pow10 w) (hb:Below w.heap.size w W):Pow10 W:=fun W' h'=>h W' (later hb h')
theorem below_grow (w:World) (q:Nat) (os:Array Obj):Below w.heap.size w (Sort.grow (w.drewN q) os) :=
 ⟨rfl,rfl,rfl,by simp [Sort.grow],fun i hi=>by
   show ((w.drewN q).heap++os)[i]?=_
   rw [Array.getElem?_append_left (by show i<w.heap.size;omega)]
   rfl⟩
theorem fmtInt_w (n:Int) (h:I64 n) (w:World) (T:Pow10 w) :
   Calls Tryd.prog 32 #[.int .i64 n,.int .i64 10] w fun r w'=>r=.returned (.string ⟨(Lib.itoa n).toArray⟩)∧Below w.heap.size w w' :=
 (Tryd.strconv_FormatInt_10 n h.1 h.2 w T.here).mono fun _ _ ⟨e,k,os,hw⟩=>⟨e,by rw [hw];exact below_grow w k os⟩
theorem itoa_w (n:Int) (h:I64 n) (w:World) (T:Pow10 w) :
   Calls Tryd.prog 34 #[.int .i64 n] w fun r w'=>r=.returned (.string ⟨(Lib.itoa n).toArray⟩)∧Below w.heap.size w w' :=
 (Tryd.strconv_Itoa n h.1 h.2 w T.here).mono fun _ _ ⟨e,k,os,hw⟩=>⟨e,by rw [hw];exact below_grow w k os⟩
def printB (N D:Int):ByteArray:=if rightR N D then (if D=1 then ⟨(Lib.itoa N).toArray⟩ else ⟨(Lib.itoa N).toArray⟩++⟨#[47]⟩++⟨(Lib.itoa D).toArray⟩) else ⟨#[]⟩
set_option maxHeartbeats 2000000 in
theorem pr_bad (N D:Int)
   (r1:∀W,Calls Tryd.prog 31 #[.agg #[.int .i64 N,.int .i64 D]] W fun r w'=>r=.returned (.bool false)∧Below W.heap.size W w') (w:World) :
   Calls Tryd.prog 10 #[.agg #[.int .i64 N,.int .i64 D]] w fun r w'=>r=.returned (.string ⟨#[]⟩)∧Below w.heap.size w w':=by
 have HB:Below w.heap.size w (w.alloc (.cells #[.int .i64 N,.int .i64 D] 23)):=by go_grown
 have X:=has2_new w (.int .i64 N) (.int .i64 D) 23
 go_enter Tryd.func10,Tryd.ntmps10
 go_upto_region 1 with fail
 generalize (w.alloc (.cells #[.int .i64 N,.int .i64 D] 23))=V1 at *
 obtain⟨p0,p1,p2,p3,p4⟩:=id X
 go_wp2_with (go_at_call 31;(with_reducible refine (r1 _).mono ?_);rintro _ W1 ⟨rfl,hb1⟩;replace X:=X.keep hb1;replace HB:=later HB hb1;clear hb1;obtain⟨q0,q1,q2,q3,q4⟩:=id X)
 go_ret
 exact⟨rfl,HB⟩
set_option maxHeartbeats 2000000 in
theorem pr_one (N:Int) (hN:I64 N)
   (r1:∀W,Calls Tryd.prog 31 #[.agg #[.int .i64 N,.int .i64 1]] W fun r w'=>r=.returned (.bool true)∧Below W.heap.size W w') (w:World) (T:Pow10 w) :
   Calls Tryd.prog 10 #[.agg #[.int .i64 N,.int .i64 1]] w fun r w'=>r=.returned (.string ⟨(Lib.itoa N).toArray⟩)∧Below w.heap.size w w':=by
 have HB:Below w.heap.size w (w.alloc (.cells #[.int .i64 N,.int .i64 1] 23)):=by go_grown
 have X:=has2_new w (.int .i64 N) (.int .i64 1) 23
 go_enter Tryd.func10,Tryd.ntmps10
 go_upto_region 1 with fail
 generalize (w.alloc (.cells #[.int .i64 N,.int .i64 1] 23))=V1 at *
 obtain⟨p0,p1,p2,p3,p4⟩:=id X
 go_wp2_with (first | (go_at_call 31;(with_reducible refine (r1 _).mono ?_);rintro _ W1 ⟨rfl,hb1⟩;replace X:=X.keep hb1;replace HB:=later HB hb1;clear hb1;obtain⟨q0,q1,q2,q3,q4⟩:=id X) | (go_at_call 32;(with_reducible refine (fmtInt_w N hN _ (T.on HB)).mono ?_);rintro _ W2 ⟨rfl,hb1⟩;replace X:=X.keep hb1;replace HB:=later HB hb1;clear hb1;obtain⟨r0,r1,r2,r3,r4⟩:=id X))
 go_ret
 exact⟨rfl,HB⟩
set_option maxHeartbeats 2000000 in
theorem pr_two (N D:Int) (hN:I64 N) (hD:I64 D) (hd:¬D=1)
   (r1:∀W,Calls Tryd.prog 31 #[.agg #[.int .i64 N,.int .i64 D]] W fun r w'=>r=.returned (.bool true)∧Below W.heap.size W w') (w:World) (T:Pow10 w) :
   Calls Tryd.prog 10 #[.agg #[.int .i64 N,.int .i64 D]] w fun r w'=>r=.returned (.string (⟨(Lib.itoa N).toArray⟩++⟨#[47]⟩++⟨(Lib.itoa D).toArray⟩))∧Below w.heap.size w w':=by
 have l1:=Lib.itoa_length_le N hN.1 hN.2
 have l2:=Lib.itoa_length_le D hD.1 hD.2
 have z1:(⟨(Lib.itoa N).toArray⟩:ByteArray).size=(Lib.itoa N).length:=by simp [ByteArray.size]
 have z2:(⟨(Lib.itoa D).toArray⟩:ByteArray).size=(Lib.itoa D).length:=by simp [ByteArray.size]
 have cN:=fun (W:World) (t:Pow10 W)=>fmtInt_w N hN W t
 have cD:=fun (W:World) (t:Pow10 W)=>fmtInt_w D hD W t
 generalize (⟨(Lib.itoa N).toArray⟩:ByteArray)=sN at *
 generalize (⟨(Lib.itoa D).toArray⟩:ByteArray)=sD at *
 have a1:∀W,(Op.stringOp .add sN ⟨#[47]⟩).run Tryd.prog W=.ok (.string (sN++⟨#[47]⟩)) W:=fun W=>run_string_add_sum W _ _ (by rw [z1];show _+1≤_;omega)
 have a2:∀W,(Op.stringOp .add (sN++⟨#[47]⟩) sD).run Tryd.prog W=.ok (.string (sN++⟨#[47]⟩++sD)) W:=fun W=>run_string_add_sum W _ _ (by rw [ByteArray.size_append,z1,z2];show _+1+_≤_;omega)
 have hd':(D==1)=false:=by simpa using hd
 have hd2:(D != 1)=true:=by simpa using hd
 clear l1 l2 z1 z2
 have HB:Below w.heap.size w (w.alloc (.cells #[.int .i64 N,.int .i64 D] 23)):=by go_grown
 have X:=has2_new w (.int .i64 N) (.int .i64 D) 23
 go_enter Tryd.func10,Tryd.ntmps10
 go_upto_region 1 with fail
 generalize (w.alloc (.cells #[.int .i64 N,.int .i64 D] 23))=V1 at *
 obtain⟨p0,p1,p2,p3,p4⟩:=id X
 go_upto_region 5 with (go_at_call 31;(with_reducible refine (r1 _).mono ?_);rintro _ W1 ⟨rfl,hb1⟩;replace X:=X.keep hb1;replace HB:=later HB hb1;clear hb1;obtain⟨q0,q1,q2,q3,q4⟩:=id X)
 clear p0 p1 p2 p3 p4 q0 q1 q2 q3 q4
 have k0:=fun n:Behind W1=>n.cell X.1 X.2.2.2.2
 have k1:=fun n:Behind W1=>n.cell X.2.1 X.2.2.2.2
 have T1:Pow10 W1:=T.on HB
 have dN:=fun n:Behind W1=>cN n.W (T1.on n.bel)
 have dD:=fun n:Behind W1=>cD n.W (T1.on n.bel)
 clear cN cD
 refine region_behind (by kernel_rfl) (by kernel_rfl) ?_
 repeat (go_big_quiet_step (first | (go_at_call 32;with_reducible refine Behind.call (dN _)) | (go_at_call 32;with_reducible refine Behind.call (dD _))))
 refine wpQuiet_nil ?_
 rintro _ ⟨m',rfl⟩
 obtain⟨V2,hb1⟩:=m'
 dsimp only
 clear k0 k1 dN dD
 replace HB:=later HB hb1
 clear hb1
 go_wp2_with fail
 go_ret
 exact⟨rfl,HB⟩
theorem print_w (N D:Int) (hN:I64 N) (hD:I64 D) (w:World) (T:Pow10 w) :
   Calls Tryd.prog 10 #[.agg #[.int .i64 N,.int .i64 D]] w fun r w'=>r=.returned (.string (printB N D))∧Below w.heap.size w w':=by
 have r1:=fun W=>rright_w11 N D hN hD W
 cases h:rightR N D
 · have e:printB N D=⟨#[]⟩:=by unfold printB;rw [h];rfl
   rw [e]
   rw [h] at r1
   exact pr_bad N D r1 w
 · rw [h] at r1
   by_cases c:D=1
   · subst c
     have e:printB N 1=⟨(Lib.itoa N).toArray⟩:=by unfold printB;rw [h];rfl
     rw [e]
     exact pr_one N hN r1 w T
   · have e:printB N D=⟨(Lib.itoa N).toArray⟩++⟨#[47]⟩++⟨(Lib.itoa D).toArray⟩:=by unfold printB;rw [h,if_pos rfl,if_neg c]
     rw [e]
     exact pr_two N D hN hD c r1 w T
set_option maxHeartbeats 2000000 in
theorem rp_bad (N D:Int)
   (r1:∀W,Calls Tryd.prog 33 #[.agg #[.int .i64 N,.int .i64 D]] W fun r w'=>r=.returned (.bool false)∧Below W.heap.size W w') (w:World) :
   Calls Tryd.prog 11 #[.agg #[.int .i64 N,.int .i64 D]] w fun r w'=>r=.returned (.string ⟨#[]⟩)∧Below w.heap.size w w':=by
 have HB:Below w.heap.size w (w.alloc (.cells #[.int .i64 N,.int .i64 D] 23)):=by go_grown
 have X:=has2_new w (.int .i64 N) (.int .i64 D) 23
 go_enter Tryd.func11,Tryd.ntmps11
 go_upto_region 1 with fail
 generalize (w.alloc (.cells #[.int .i64 N,.int .i64 D] 23))=V1 at *
 obtain⟨p0,p1,p2,p3,p4⟩:=id X
 go_wp2_with (go_at_call 33;(with_reducible refine (r1 _).mono ?_);rintro _ W1 ⟨rfl,hb1⟩;replace X:=X.keep hb1;replace HB:=later HB hb1;clear hb1;obtain⟨q0,q1,q2,q3,q4⟩:=id X)
 go_ret
 exact⟨rfl,HB⟩
set_option maxHeartbeats 2000000 in
theorem rp_one (N:Int) (hN:I64 N)
   (r1:∀W,Calls Tryd.prog 33 #[.agg #[.int .i64 N,.int .i64 1]] W fun r w'=>r=.returned (.bool true)∧Below W.heap.size W w') (w:World) (T:Pow10 w) :
   Calls Tryd.prog 11 #[.agg #[.int .i64 N,.int .i64 1]] w fun r w'=>r=.returned (.string ⟨(Lib.itoa N).toArray⟩)∧Below w.heap.size w w':=by
 have HB:Below w.heap.size w (w.alloc (.cells #[.int .i64 N,.int .i64 1] 23)):=by go_grown
 have X:=has2_new w (.int .i64 N) (.int .i64 1) 23
 go_enter Tryd.func11,Tryd.ntmps11
 go_upto_region 1 with fail
 generalize (w.alloc (.cells #[.int .i64 N,.int .i64 1] 23))=V1 at *
 obtain⟨p0,p1,p2,p3,p4⟩:=id X
 go_wp2_with (first | (go_at_call 33;(with_reducible refine (r1 _).mono ?_);rintro _ W1 ⟨rfl,hb1⟩;replace X:=X.keep hb1;replace HB:=later HB hb1;clear hb1;obtain⟨q0,q1,q2,q3,q4⟩:=id X) | (go_at_call 34;(with_reducible refine (itoa_w N hN _ (T.on HB)).mono ?_);rintro _ W2 ⟨rfl,hb1⟩;replace X:=X.keep hb1;replace HB:=later HB hb1;clear hb1;obtain⟨r0,r1,r2,r3,r4⟩:=id X))
 go_ret
 exact⟨rfl,HB⟩
set_option maxHeartbeats 2000000 in
theorem rp_two (N D:Int) (hN:I64 N) (hD:I64 D) (hd:¬D=1)
   (r1:∀W,Calls Tryd.prog 33 #[.agg #[.int .i64 N,.int .i64 D]] W fun r w'=>r=.returned (.bool true)∧Below W.heap.size W w') (w:World) (T:Pow10 w) :
   Calls Tryd.prog 11 #[.agg #[.int .i64 N,.int .i64 D]] w fun r w'=>r=.returned (.string (⟨(Lib.itoa N).toArray⟩++⟨#[47]⟩++⟨(Lib.itoa D).toArray⟩))∧Below w.heap.size w w':=by
 have l1:=Lib.itoa_length_le N hN.1 hN.2
 have l2:=Lib.itoa_length_le D hD.1 hD.2
 have z1:(⟨(Lib.itoa N).toArray⟩:ByteArray).size=(Lib.itoa N).length:=by simp [ByteArray.size]
 have z2:(⟨(Lib.itoa D).toArray⟩:ByteArray).size=(Lib.itoa D).length:=by simp [ByteArray.size]
 have cN:=fun (W:World) (t:Pow10 W)=>itoa_w N hN W t
 have cD:=fun (W:World) (t:Pow10 W)=>itoa_w D hD W t
 generalize (⟨(Lib.itoa N).toArray⟩:ByteArray)=sN at *
 generalize (⟨(Lib.itoa D).toArray⟩:ByteArray)=sD at *
 have a1:∀W,(Op.stringOp .add sN ⟨#[47]⟩).run Tryd.prog W=.ok (.string (sN++⟨#[47]⟩)) W:=fun W=>run_string_add_sum W _ _ (by rw [z1];show _+1≤_;omega)
 have a2:∀W,(Op.stringOp .add (sN++⟨#[47]⟩) sD).run Tryd.prog W=.ok (.string (sN++⟨#[47]⟩++sD)) W:=fun W=>run_string_add_sum W _ _ (by rw [ByteArray.size_append,z1,z2];show _+1+_≤_;omega)
 have hd':(D==1)=false:=by simpa using hd
 have hd2:(D != 1)=true:=by simpa using hd
 clear l1 l2 z1 z2
 have HB:Below w.heap.size w (w.alloc (.cells #[.int .i64 N,.int .i64 D] 23)):=by go_grown
 have X:=has2_new w (.int .i64 N) (.int .i64 D) 23
 go_enter Tryd.func11,Tryd.ntmps11
 go_upto_region 1 with fail
 generalize (w.alloc (.cells #[.int .i64 N,.int .i64 D] 23))=V1 at *
 obtain⟨p0,p1,p2,p3,p4⟩:=id X
 go_wp2_with (first | (go_at_call 33;(with_reducible refine (r1 _).mono ?_);rintro _ W1 ⟨rfl,hb1⟩;replace X:=X.keep hb1;replace HB:=later HB hb1;clear hb1;obtain⟨q0,q1,q2,q3,q4⟩:=id X) | (go_at_call 34;(with_reducible refine (cN _ (T.on HB)).mono ?_);rintro _ W2 ⟨rfl,hb1⟩;replace X:=X.keep hb1;replace HB:=later HB hb1;clear hb1;obtain⟨r0,r1,r2,r3,r4⟩:=id X) | (go_at_call 34;(with_reducible refine (cD _ (T.on HB)).mono ?_);rintro _ W3 ⟨rfl,hb1⟩;replace X:=X.keep hb1;replace HB:=later HB hb1;clear hb1;obtain⟨s0,s1,s2,s3,s4⟩:=id X))
 go_ret
 exact⟨rfl,HB⟩
theorem rpint_w (N D:Int) (hN:I64 N) (hD:I64 D) (w:World) (T:Pow10 w) :
   Calls Tryd.prog 11 #[.agg #[.int .i64 N,.int .i64 D]] w fun r w'=>r=.returned (.string (printB N D))∧Below w.heap.size w w':=by
 have r1:=fun W=>right11_w N D hN hD W
 cases h:rightR N D
 · have e:printB N D=⟨#[]⟩:=by unfold printB;rw [h];rfl
   rw [e]
   rw [h] at r1
   exact rp_bad N D r1 w
 · rw [h] at r1
   by_cases c:D=1
   · subst c
     have e:printB N 1=⟨(Lib.itoa N).toArray⟩:=by unfold printB;rw [h];rfl
     rw [e]
     exact rp_one N hN r1 w T
   · have e:printB N D=⟨(Lib.itoa N).toArray⟩++⟨#[47]⟩++⟨(Lib.itoa D).toArray⟩:=by unfold printB;rw [h,if_pos rfl,if_neg c]
     rw [e]
     exact rp_two N D hN hD c r1 w T
end Go.Proofs.YtgocelaghggpmaaDoor
