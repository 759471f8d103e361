/- An operation's value behind those ahead: nextValue. A tape's values as functions of words; nextValue answers them. A tape's values: refused, atOuts and Eval of the program. -/
import Derived.Test.YtopfabemfbdccaaGreatZk35
import Derived.Test.YtopfabemfbdccaaGreatZk15
import Derived.Test.YtopfabemfbdccaaGreatZk22
namespace Go.Proofs.YtopfabemfbdccaaGreat
open Go.ChangeShapes Go.WideShapes Go.ChangeAt Go.RowKit
set_option maxHeartbeats 1000000 in
theorem nv_out (k oa ob n:Int) (l a b:Nat×Nat) (ahead xs:Value) (w:World) (c1:∀W,Below w.heap.size w W->Calls Tryz.prog 132 #[.agg #[.int .i64 k,.int .i64 oa,.int .i64 ob,.int .i64 n,.float .f64 l.1,.float .f64 l.2],ahead] W fun e w'=>e=.returned (.tuple #[.agg #[.float .f64 a.1,.float .f64 a.2],.agg #[.float .f64 b.1,.float .f64 b.2]])/\Below W.heap.size W w') (c2:∀w,Calls Tryz.prog 133 #[.agg #[.int .i64 k,.int .i64 oa,.int .i64 ob,.int .i64 n,.float .f64 l.1,.float .f64 l.2],.agg #[.float .f64 a.1,.float .f64 a.2],.agg #[.float .f64 b.1,.float .f64 b.2]] w fun e w'=>e=.returned (.bool true)/\Below w.heap.size w w'):Calls Tryz.prog 70 #[.agg #[.int .i64 k,.int .i64 oa,.int .i64 ob,.int .i64 n,.float .f64 l.1,.float .f64 l.2],ahead,xs] w fun e w'=>e=.returned (.tuple #[.agg #[.float .f64 0,.float .f64 0],.int .i64 51])/\Below w.heap.size w w':=by
 have O:HasO ((w.alloc (.cells #[.int .i64 k,.int .i64 oa,.int .i64 ob,.int .i64 n,.float .f64 l.1,.float .f64 l.2] 77)).alloc (.cells #[.float .f64 0,.float .f64 0] 24)) w.heap.size k oa ob n l:=(hasO_new w k oa ob n l).alloc _
 have R:Has2 ((w.alloc (.cells #[.int .i64 k,.int .i64 oa,.int .i64 ob,.int .i64 n,.float .f64 l.1,.float .f64 l.2] 77)).alloc (.cells #[.float .f64 0,.float .f64 0] 24)) (w.heap.size+1) (.float .f64 0) (.float .f64 0):=⟨by go_simp,by go_simp,by go_simp,by go_simp,by go_size⟩
 have HB:Below w.heap.size w ((w.alloc (.cells #[.int .i64 k,.int .i64 oa,.int .i64 ob,.int .i64 n,.float .f64 l.1,.float .f64 l.2] 77)).alloc (.cells #[.float .f64 0,.float .f64 0] 24)):=by go_grown
 go_enter Tryz.func70,Tryz.ntmps70
 go_upto_region 1 with fail
 generalize (w.alloc (.cells #[.int .i64 k,.int .i64 oa,.int .i64 ob,.int .i64 n,.float .f64 l.1,.float .f64 l.2] 77)).alloc (.cells #[.float .f64 0,.float .f64 0] 24)=V1 at *
 obtain⟨o0,o1,o2,o3,o4,o5,ol⟩:=id O
 go_upto_region 2 with (go_at_call 132;refine (c1 _ HB).mono ?_;rintro _ VV ⟨rfl,hb1⟩;replace O:=O.keep hb1;replace R:=R.keep hb1;replace HB:=later HB hb1;clear hb1)
 clear c1 o0 o1 o2 o3 o4 o5 ol
 have hb1:Below VV.heap.size VV ((VV.alloc (.cells #[.float .f64 a.1,.float .f64 a.2] 24)).alloc (.cells #[.float .f64 b.1,.float .f64 b.2] 24)):=by go_grown
 have X:Has2 ((VV.alloc (.cells #[.float .f64 a.1,.float .f64 a.2] 24)).alloc (.cells #[.float .f64 b.1,.float .f64 b.2] 24)) VV.heap.size (.float .f64 a.1) (.float .f64 a.2):=⟨by go_simp,by go_simp,by go_simp,by go_simp,by go_size⟩
 have Y:Has2 ((VV.alloc (.cells #[.float .f64 a.1,.float .f64 a.2] 24)).alloc (.cells #[.float .f64 b.1,.float .f64 b.2] 24)) (VV.heap.size+1) (.float .f64 b.1) (.float .f64 b.2):=⟨by go_simp,by go_simp,by go_simp,by go_simp,by go_size⟩
 replace O:=O.keep hb1;replace R:=R.keep hb1;replace HB:=later HB hb1;clear hb1
 generalize ((VV.alloc (.cells #[.float .f64 a.1,.float .f64 a.2] 24)).alloc (.cells #[.float .f64 b.1,.float .f64 b.2] 24))=V2 at *
 generalize VV.heap.size=d at *
 obtain⟨o0,o1,o2,o3,o4,o5,ol⟩:=id O
 obtain⟨p0,p1,p2,p3,p4⟩:=id X
 obtain⟨q0,q1,q2,q3,q4⟩:=id Y
 go_wp2_with (go_at_call 133;refine (c2 _).mono ?_;rintro _ V3 ⟨rfl,hb1⟩;replace R:=R.keep hb1;replace HB:=later HB hb1;clear hb1;obtain⟨k0,k1,k2,k3,k4⟩:=id R)
 refine bodyPost_ret (v:=.tuple #[.agg #[.float .f64 0,.float .f64 0],.int .i64 51]) (by simp [results,Tryz.results70,go_sem, *]) rfl ⟨rfl, ?_⟩;repeat' (first | (with_reducible exact HB) | (with_reducible refine Below.setCell ?_ ?_ _) | go_size)
set_option maxHeartbeats 1000000 in
theorem nv_wide (v:Nat×Nat) (k oa ob n:Int) (l a b:Nat×Nat) (ahead xs:Value) (w:World) (c1:∀W,Below w.heap.size w W->Calls Tryz.prog 132 #[.agg #[.int .i64 k,.int .i64 oa,.int .i64 ob,.int .i64 n,.float .f64 l.1,.float .f64 l.2],ahead] W fun e w'=>e=.returned (.tuple #[.agg #[.float .f64 a.1,.float .f64 a.2],.agg #[.float .f64 b.1,.float .f64 b.2]])/\Below W.heap.size W w') (c2:∀w,Calls Tryz.prog 133 #[.agg #[.int .i64 k,.int .i64 oa,.int .i64 ob,.int .i64 n,.float .f64 l.1,.float .f64 l.2],.agg #[.float .f64 a.1,.float .f64 a.2],.agg #[.float .f64 b.1,.float .f64 b.2]] w fun e w'=>e=.returned (.bool false)/\Below w.heap.size w w') (c3:∀W,Below w.heap.size w W->Calls Tryz.prog 134 #[.agg #[.int .i64 k,.int .i64 oa,.int .i64 ob,.int .i64 n,.float .f64 l.1,.float .f64 l.2],.agg #[.float .f64 a.1,.float .f64 a.2],.agg #[.float .f64 b.1,.float .f64 b.2],xs] W fun e w'=>e=.returned (.agg #[.float .f64 v.1,.float .f64 v.2])/\Below W.heap.size W w') (c4:∀w,Calls Tryz.prog 135 #[.agg #[.float .f64 v.1,.float .f64 v.2]] w fun e w'=>e=.returned (.bool false)/\Below w.heap.size w w'):Calls Tryz.prog 70 #[.agg #[.int .i64 k,.int .i64 oa,.int .i64 ob,.int .i64 n,.float .f64 l.1,.float .f64 l.2],ahead,xs] w fun e w'=>e=.returned (.tuple #[.agg #[.float .f64 0,.float .f64 0],.int .i64 5])/\Below w.heap.size w w':=by
 have O:HasO ((w.alloc (.cells #[.int .i64 k,.int .i64 oa,.int .i64 ob,.int .i64 n,.float .f64 l.1,.float .f64 l.2] 77)).alloc (.cells #[.float .f64 0,.float .f64 0] 24)) w.heap.size k oa ob n l:=(hasO_new w k oa ob n l).alloc _
 have R:Has2 ((w.alloc (.cells #[.int .i64 k,.int .i64 oa,.int .i64 ob,.int .i64 n,.float .f64 l.1,.float .f64 l.2] 77)).alloc (.cells #[.float .f64 0,.float .f64 0] 24)) (w.heap.size+1) (.float .f64 0) (.float .f64 0):=⟨by go_simp,by go_simp,by go_simp,by go_simp,by go_size⟩
 have HB:Below w.heap.size w ((w.alloc (.cells #[.int .i64 k,.int .i64 oa,.int .i64 ob,.int .i64 n,.float .f64 l.1,.float .f64 l.2] 77)).alloc (.cells #[.float .f64 0,.float .f64 0] 24)):=by go_grown
 go_enter Tryz.func70,Tryz.ntmps70
 go_upto_region 1 with fail
 generalize (w.alloc (.cells #[.int .i64 k,.int .i64 oa,.int .i64 ob,.int .i64 n,.float .f64 l.1,.float .f64 l.2] 77)).alloc (.cells #[.float .f64 0,.float .f64 0] 24)=V1 at *
 obtain⟨o0,o1,o2,o3,o4,o5,ol⟩:=id O
 go_upto_region 2 with (go_at_call 132;refine (c1 _ HB).mono ?_;rintro _ VV ⟨rfl,hb1⟩;replace O:=O.keep hb1;replace R:=R.keep hb1;replace HB:=later HB hb1;clear hb1)
 clear c1 o0 o1 o2 o3 o4 o5 ol
 have hb1:Below VV.heap.size VV ((VV.alloc (.cells #[.float .f64 a.1,.float .f64 a.2] 24)).alloc (.cells #[.float .f64 b.1,.float .f64 b.2] 24)):=by go_grown
 have X:Has2 ((VV.alloc (.cells #[.float .f64 a.1,.float .f64 a.2] 24)).alloc (.cells #[.float .f64 b.1,.float .f64 b.2] 24)) VV.heap.size (.float .f64 a.1) (.float .f64 a.2):=⟨by go_simp,by go_simp,by go_simp,by go_simp,by go_size⟩
 have Y:Has2 ((VV.alloc (.cells #[.float .f64 a.1,.float .f64 a.2] 24)).alloc (.cells #[.float .f64 b.1,.float .f64 b.2] 24)) (VV.heap.size+1) (.float .f64 b.1) (.float .f64 b.2):=⟨by go_simp,by go_simp,by go_simp,by go_simp,by go_size⟩
 replace O:=O.keep hb1;replace R:=R.keep hb1;replace HB:=later HB hb1;clear hb1
 generalize ((VV.alloc (.cells #[.float .f64 a.1,.float .f64 a.2] 24)).alloc (.cells #[.float .f64 b.1,.float .f64 b.2] 24))=V2 at *
 generalize VV.heap.size=d at *
 obtain⟨o0,o1,o2,o3,o4,o5,ol⟩:=id O
 obtain⟨p0,p1,p2,p3,p4⟩:=id X
 obtain⟨q0,q1,q2,q3,q4⟩:=id Y
 go_upto_region 4 with (go_at_call 133;refine (c2 _).mono ?_;rintro _ VV ⟨rfl,hb1⟩;replace O:=O.keep hb1;replace R:=R.keep hb1;replace X:=X.keep hb1;replace Y:=Y.keep hb1;replace HB:=later HB hb1;clear hb1)
 clear o0 o1 o2 o3 o4 o5 ol p0 p1 p2 p3 p4 q0 q1 q2 q3 q4 c2
 obtain⟨o0,o1,o2,o3,o4,o5,ol⟩:=id O
 obtain⟨p0,p1,p2,p3,p4⟩:=id X
 obtain⟨q0,q1,q2,q3,q4⟩:=id Y
 go_upto_region 5 with (go_at_call 134;refine (c3 _ HB).mono ?_;rintro _ VV ⟨rfl,hb1⟩;replace R:=R.keep hb1;replace HB:=later HB hb1;clear hb1)
 clear o0 o1 o2 o3 o4 o5 ol p0 p1 p2 p3 p4 q0 q1 q2 q3 q4 c3 O X Y
 have hb1:Below VV.heap.size VV (VV.alloc (.cells #[.float .f64 v.1,.float .f64 v.2] 24)):=by go_grown
 have Z:Has2 (VV.alloc (.cells #[.float .f64 v.1,.float .f64 v.2] 24)) VV.heap.size (.float .f64 v.1) (.float .f64 v.2):=has2_new _ _ _ _
 replace R:=R.keep hb1;replace HB:=later HB hb1;clear hb1
 generalize (VV.alloc (.cells #[.float .f64 v.1,.float .f64 v.2] 24))=V4 at *
 generalize VV.heap.size=z at *
 obtain⟨y0,y1,y2,y3,y4⟩:=id Z
 go_wp2_with (go_at_call 135;refine (c4 _).mono ?_;rintro _ V5 ⟨rfl,hb1⟩;replace R:=R.keep hb1;replace HB:=later HB hb1;clear hb1;obtain⟨k0,k1,k2,k3,k4⟩:=id R)
 refine bodyPost_ret (v:=.tuple #[.agg #[.float .f64 0,.float .f64 0],.int .i64 5]) (by simp [results,Tryz.results70,go_sem, *]) rfl ⟨rfl, ?_⟩;repeat' (first | (with_reducible exact HB) | (with_reducible refine Below.setCell ?_ ?_ _) | go_size)
set_option maxHeartbeats 1000000 in
theorem nv_ok (v:Nat×Nat) (k oa ob n:Int) (l a b:Nat×Nat) (ahead xs:Value) (w:World) (c1:∀W,Below w.heap.size w W->Calls Tryz.prog 132 #[.agg #[.int .i64 k,.int .i64 oa,.int .i64 ob,.int .i64 n,.float .f64 l.1,.float .f64 l.2],ahead] W fun e w'=>e=.returned (.tuple #[.agg #[.float .f64 a.1,.float .f64 a.2],.agg #[.float .f64 b.1,.float .f64 b.2]])/\Below W.heap.size W w') (c2:∀w,Calls Tryz.prog 133 #[.agg #[.int .i64 k,.int .i64 oa,.int .i64 ob,.int .i64 n,.float .f64 l.1,.float .f64 l.2],.agg #[.float .f64 a.1,.float .f64 a.2],.agg #[.float .f64 b.1,.float .f64 b.2]] w fun e w'=>e=.returned (.bool false)/\Below w.heap.size w w') (c3:∀W,Below w.heap.size w W->Calls Tryz.prog 134 #[.agg #[.int .i64 k,.int .i64 oa,.int .i64 ob,.int .i64 n,.float .f64 l.1,.float .f64 l.2],.agg #[.float .f64 a.1,.float .f64 a.2],.agg #[.float .f64 b.1,.float .f64 b.2],xs] W fun e w'=>e=.returned (.agg #[.float .f64 v.1,.float .f64 v.2])/\Below W.heap.size W w') (c4:∀w,Calls Tryz.prog 135 #[.agg #[.float .f64 v.1,.float .f64 v.2]] w fun e w'=>e=.returned (.bool true)/\Below w.heap.size w w'):Calls Tryz.prog 70 #[.agg #[.int .i64 k,.int .i64 oa,.int .i64 ob,.int .i64 n,.float .f64 l.1,.float .f64 l.2],ahead,xs] w fun e w'=>e=.returned (.tuple #[.agg #[.float .f64 v.1,.float .f64 v.2],.int .i64 0])/\Below w.heap.size w w':=by
 have O:HasO ((w.alloc (.cells #[.int .i64 k,.int .i64 oa,.int .i64 ob,.int .i64 n,.float .f64 l.1,.float .f64 l.2] 77)).alloc (.cells #[.float .f64 0,.float .f64 0] 24)) w.heap.size k oa ob n l:=(hasO_new w k oa ob n l).alloc _
 have R:Has2 ((w.alloc (.cells #[.int .i64 k,.int .i64 oa,.int .i64 ob,.int .i64 n,.float .f64 l.1,.float .f64 l.2] 77)).alloc (.cells #[.float .f64 0,.float .f64 0] 24)) (w.heap.size+1) (.float .f64 0) (.float .f64 0):=⟨by go_simp,by go_simp,by go_simp,by go_simp,by go_size⟩
 have HB:Below w.heap.size w ((w.alloc (.cells #[.int .i64 k,.int .i64 oa,.int .i64 ob,.int .i64 n,.float .f64 l.1,.float .f64 l.2] 77)).alloc (.cells #[.float .f64 0,.float .f64 0] 24)):=by go_grown
 go_enter Tryz.func70,Tryz.ntmps70
 go_upto_region 1 with fail
 generalize (w.alloc (.cells #[.int .i64 k,.int .i64 oa,.int .i64 ob,.int .i64 n,.float .f64 l.1,.float .f64 l.2] 77)).alloc (.cells #[.float .f64 0,.float .f64 0] 24)=V1 at *
 obtain⟨o0,o1,o2,o3,o4,o5,ol⟩:=id O
 go_upto_region 2 with (go_at_call 132;refine (c1 _ HB).mono ?_;rintro _ VV ⟨rfl,hb1⟩;replace O:=O.keep hb1;replace R:=R.keep hb1;replace HB:=later HB hb1;clear hb1)
 clear c1 o0 o1 o2 o3 o4 o5 ol
 have hb1:Below VV.heap.size VV ((VV.alloc (.cells #[.float .f64 a.1,.float .f64 a.2] 24)).alloc (.cells #[.float .f64 b.1,.float .f64 b.2] 24)):=by go_grown
 have X:Has2 ((VV.alloc (.cells #[.float .f64 a.1,.float .f64 a.2] 24)).alloc (.cells #[.float .f64 b.1,.float .f64 b.2] 24)) VV.heap.size (.float .f64 a.1) (.float .f64 a.2):=⟨by go_simp,by go_simp,by go_simp,by go_simp,by go_size⟩
 have Y:Has2 ((VV.alloc (.cells #[.float .f64 a.1,.float .f64 a.2] 24)).alloc (.cells #[.float .f64 b.1,.float .f64 b.2] 24)) (VV.heap.size+1) (.float .f64 b.1) (.float .f64 b.2):=⟨by go_simp,by go_simp,by go_simp,by go_simp,by go_size⟩
 replace O:=O.keep hb1;replace R:=R.keep hb1;replace HB:=later HB hb1;clear hb1
 generalize ((VV.alloc (.cells #[.float .f64 a.1,.float .f64 a.2] 24)).alloc (.cells #[.float .f64 b.1,.float .f64 b.2] 24))=V2 at *
 generalize VV.heap.size=d at *
 obtain⟨o0,o1,o2,o3,o4,o5,ol⟩:=id O
 obtain⟨p0,p1,p2,p3,p4⟩:=id X
 obtain⟨q0,q1,q2,q3,q4⟩:=id Y
 go_upto_region 4 with (go_at_call 133;refine (c2 _).mono ?_;rintro _ VV ⟨rfl,hb1⟩;replace O:=O.keep hb1;replace R:=R.keep hb1;replace X:=X.keep hb1;replace Y:=Y.keep hb1;replace HB:=later HB hb1;clear hb1)
 clear o0 o1 o2 o3 o4 o5 ol p0 p1 p2 p3 p4 q0 q1 q2 q3 q4 c2
 obtain⟨o0,o1,o2,o3,o4,o5,ol⟩:=id O
 obtain⟨p0,p1,p2,p3,p4⟩:=id X
 obtain⟨q0,q1,q2,q3,q4⟩:=id Y
 go_upto_region 5 with (go_at_call 134;refine (c3 _ HB).mono ?_;rintro _ VV ⟨rfl,hb1⟩;replace R:=R.keep hb1;replace HB:=later HB hb1;clear hb1)
 clear o0 o1 o2 o3 o4 o5 ol p0 p1 p2 p3 p4 q0 q1 q2 q3 q4 c3 O X Y
 have hb1:Below VV.heap.size VV (VV.alloc (.cells #[.float .f64 v.1,.float .f64 v.2] 24)):=by go_grown
 have Z:Has2 (VV.alloc (.cells #[.float .f64 v.1,.float .f64 v.2] 24)) VV.heap.size (.float .f64 v.1) (.float .f64 v.2):=has2_new _ _ _ _
 replace R:=R.keep hb1;replace HB:=later HB hb1;clear hb1
 generalize (VV.alloc (.cells #[.float .f64 v.1,.float .f64 v.2] 24))=V4 at *
 generalize VV.heap.size=z at *
 obtain⟨y0,y1,y2,y3,y4⟩:=id Z
 go_wp2_with (go_at_call 135;refine (c4 _).mono ?_;rintro _ V5 ⟨rfl,hb1⟩;replace R:=R.keep hb1;replace Z:=Z.keep hb1;replace HB:=later HB hb1;clear hb1;clear y0 y1 y2 y3 y4;obtain⟨y0,y1,y2,y3,y4⟩:=id Z;obtain⟨k0,k1,k2,k3,k4⟩:=id R)
 refine bodyPost_ret (v:=.tuple #[.agg #[.float .f64 v.1,.float .f64 v.2],.int .i64 0]) (by simp [results,Tryz.results70,go_sem, *]) rfl ⟨rfl, ?_⟩;repeat' (first | (with_reducible exact HB) | (with_reducible refine Below.setCell ?_ ?_ _) | go_size)
def powQ (p:Nat×Nat) (n:Int):Nat×Nat:=powP p.1 p.2 n
theorem powQ_W2 {p:Nat×Nat} (hp:W2 p) (n:Int):W2 (powQ p n):=powP_lt hp.1 hp.2 n
theorem cPow {p:Nat×Nat} (hp:W2 p) (n:Int) (w:World):Calls Tryz.prog 189 #[.agg #[.float .f64 p.1,.float .f64 p.2],.int .i64 n] w fun e w'=>e=.returned (.agg #[.float .f64 (powQ p n).1,.float .f64 (powQ p n).2])/\Below w.heap.size w w':=Pow_w p.1 p.2 hp.1 hp.2 n w
def zz:Nat×Nat:=(0,0)
theorem zz_W2:W2 zz:=by decide
def evalQ (o:Opw) (a b:Nat×Nat) (X:Nat->Nat×Nat):Nat×Nat :=
 if o.k=1 then (o.lo,o.hi) else if o.k=2 then X o.n.toNat else if o.k=3 then addQ a b else if o.k=4 then subQ a b else if o.k=5 then mulQ a b else if o.k=6 then divQ a b else if o.k=7 then negQ a
 else if o.k=8 then powQ a o.n else if o.k=9 then sqrtQ a else if o.k=10 then expQ a else if o.k=11 then logQ a else if o.k=12 then sinQ a else if o.k=13 then cosQ a else atanQ a
def outQ (o:Opw) (a b:Nat×Nat):Bool:=if o.k=6 then hasB b.1 b.2 0 else if o.k=8 then decide (o.n<0)&&hasB a.1 a.2 0 else if o.k=9 then ltB a.1 0 else if o.k=11 then leB a.1 0 else false
def argA (o:Opw) (V:Nat->Nat×Nat):Nat×Nat:=if 1<=arI o.k then V o.a.toNat else zz
def argB (o:Opw) (V:Nat->Nat×Nat):Nat×Nat:=if arI o.k=2 then V o.b.toNat else zz
def errQ (o:Opw) (a b:Nat×Nat) (X:Nat->Nat×Nat):Int:=if outQ o a b then 51 else if bndB (evalQ o a b X) then 0 else 5
theorem cOut {o:Opw} (hk:1<=o.k/\o.k<=14) {a b:Nat×Nat} (ha:W2 a) (hb:W2 b) (w:World):Calls Tryz.prog 133 #[o.val,.agg #[.float .f64 a.1,.float .f64 a.2],.agg #[.float .f64 b.1,.float .f64 b.2]] w fun e w'=>e=.returned (.bool (outQ o a b))/\Below w.heap.size w w':=by
 obtain⟨k,oa,ob,n,lo,hi⟩:=o
 have hh:k=1\/k=2\/k=3\/k=4\/k=5\/k=6\/k=7\/k=8\/k=9\/k=10\/k=11\/k=12\/k=13\/k=14:=by
  have:=hk.1;have:=hk.2;simp only at *;omega
 rcases hh with rfl | rfl | rfl | rfl | rfl | rfl | rfl | rfl | rfl | rfl | rfl | rfl | rfl | rfl
 ·exact io_1 oa ob n (lo,hi) a b w
 ·exact io_2 oa ob n (lo,hi) a b w
 ·exact io_3 oa ob n (lo,hi) a b w
 ·exact io_4 oa ob n (lo,hi) a b w
 ·exact io_5 oa ob n (lo,hi) a b w
 ·exact io_6 oa ob n (lo,hi) a b _ (fun w=>has_w b.1 b.2 0 hb.1 hb.2 (by omega) w) w
 ·exact io_7 oa ob n (lo,hi) a b w
 ·have e:outQ ⟨8,oa,ob,n,lo,hi⟩ a b=(decide (n<0)&&hasB a.1 a.2 0):=rfl
  rw [e]
  exact io_8 oa ob n (lo,hi) a b _ (fun hn w=>by rw [decide_eq_true hn,Bool.true_and];exact has_w a.1 a.2 0 ha.1 ha.2 (by omega) w) (fun hn=>by rw [decide_eq_false hn];rfl) w
 ·exact io_9 oa ob n (lo,hi) a b _ (o_lt ha.1 (by omega)) w
 ·exact io_10 oa ob n (lo,hi) a b w
 ·exact io_11 oa ob n (lo,hi) a b _ (o_le ha.1 (by omega)) w
 ·exact io_12 oa ob n (lo,hi) a b w
 ·exact io_13 oa ob n (lo,hi) a b w
 ·exact io_14 oa ob n (lo,hi) a b w
theorem cVal {o:Opw} (hk:1<=o.k/\o.k<=14) {a b:Nat×Nat} (ha:W2 a) (hb:W2 b) (A:Option Addr) (m C:Nat) (X:Nat->Nat×Nat) (hn:o.k=2->0<=o.n/\o.n<(m:Int)) (w:World) (V:Ivs w A m X) :
  Calls Tryz.prog 134 #[o.val,.agg #[.float .f64 a.1,.float .f64 a.2],.agg #[.float .f64 b.1,.float .f64 b.2],.slice A m C] w fun e w'=>e=.returned (.agg #[.float .f64 (evalQ o a b X).1,.float .f64 (evalQ o a b X).2])/\Below w.heap.size w w':=by
 obtain⟨k,oa,ob,n,lo,hi⟩:=o
 have hh:k=1\/k=2\/k=3\/k=4\/k=5\/k=6\/k=7\/k=8\/k=9\/k=10\/k=11\/k=12\/k=13\/k=14:=by
  have:=hk.1;have:=hk.2;simp only at *;omega
 rcases hh with rfl | rfl | rfl | rfl | rfl | rfl | rfl | rfl | rfl | rfl | rfl | rfl | rfl | rfl
 ·exact vo_1 oa ob n (lo,hi) a b _ w
 ·obtain⟨h0,h1⟩:=hn rfl
  simp only at h0 h1
  obtain⟨i,rfl⟩:∃i:Nat,n=(i:Int):=⟨n.toNat,by omega⟩
  obtain⟨xb,xo,rfl,hl,x0,x1, -⟩:=V i (by omega)
  have e:evalQ ⟨2,oa,ob,(i:Int),lo,hi⟩ a b X=X i:=rfl
  rw [e]
  exact vo_2 oa ob i m C xb xo (lo,hi) a b (X i) (by omega) w hl x0 x1
 ·exact vo_3 oa ob n (lo,hi) a b _ _ (fun w=>cAdd ha hb w) w
 ·exact vo_4 oa ob n (lo,hi) a b _ _ (fun w=>cSub ha hb w) w
 ·exact vo_5 oa ob n (lo,hi) a b _ _ (fun w=>cMul ha hb w) w
 ·exact vo_6 oa ob n (lo,hi) a b _ _ (fun w=>cDiv ha hb w) w
 ·exact vo_7 oa ob n (lo,hi) a b _ _ (fun w=>cNeg ha w) w
 ·exact vo_8 oa ob n (lo,hi) a b _ _ (fun w=>cPow ha n w) w
 ·exact vo_9 oa ob n (lo,hi) a b _ _ (fun w=>cSqrt ha w) w
 ·exact vo_10 oa ob n (lo,hi) a b _ _ (fun w=>cExp ha w) w
 ·exact vo_11 oa ob n (lo,hi) a b _ _ (fun w=>cLog ha w) w
 ·exact vo_12 oa ob n (lo,hi) a b _ _ (fun w=>cSin ha w) w
 ·exact vo_13 oa ob n (lo,hi) a b _ _ (fun w=>cCos ha w) w
 ·exact vo_14 oa ob n (lo,hi) a b _ _ (fun w=>cAtan ha w) w
theorem evalQ_W2 {o:Opw} {a b:Nat×Nat} {X:Nat->Nat×Nat} (ho:o.k=1->W2 (o.lo,o.hi)) (hX:o.k=2->W2 (X o.n.toNat)) (ha:W2 a) (hb:W2 b):W2 (evalQ o a b X):=by
 unfold evalQ
 by_cases h1:o.k=1
 ·rw [if_pos h1];exact ho h1
 rw [if_neg h1]
 by_cases h2:o.k=2
 ·rw [if_pos h2];exact hX h2
 rw [if_neg h2]
 clear h1 h2
 split
 ·exact addQ_W2 ha hb
 split
 ·exact subQ_W2 ha hb
 split
 ·exact mulQ_W2 ha hb
 split
 ·exact divQ_W2 ha hb
 split
 ·exact negQ_W2 ha
 split
 ·exact powQ_W2 ha _
 split
 ·exact sqrtQ_W2 ha
 split
 ·exact expQ_W2 ha
 split
 ·exact logQ_W2 ha
 split
 ·exact waveQ_W2 ha 0
 split
 ·exact waveQ_W2 ha 1
 ·exact atanQ_W2 ha
theorem opB_says {o:Opw} {i:Nat} {vars:Int} (h:opB o (i:Int) vars=true):(1<=o.k/\o.k<=14)/\(1<=arI o.k->0<=o.a/\o.a<(i:Int))/\(arI o.k=2->0<=o.b/\o.b<(i:Int))/\(o.k=2->0<=o.n/\o.n<vars)/\(o.k=1->hsB o.lo o.hi=true):=by
 unfold opB at h
 simp only [Bool.and_eq_true,decide_eq_true_eq] at h
 obtain⟨⟨hk,hd⟩,hr⟩:=h
 unfold opdB at hd
 rw [all_upto2] at hd
 have ar:=ar_le o.k
 refine⟨hk,fun h1=>?_,fun h2=>?_,fun h2=>?_,fun h1=>?_⟩
 ·have:=hd 0 (by unfold Opw.ar;omega)
  unfold oneOf Opw.at at this
  simpa using this
 ·have:=hd 1 (by unfold Opw.ar;omega)
  unfold oneOf Opw.at at this
  simpa using this
 ·unfold restB at hr
  rw [if_neg (by omega),if_pos h2] at hr
  unfold oneOf at hr
  simpa using hr
 ·unfold restB at hr
  rw [if_pos h1] at hr
  exact hr
theorem cOps {o:Opw} {i:Nat} (B:Option Addr) (D:Nat) (V:Nat->Nat×Nat) (h1:1<=arI o.k->0<=o.a/\o.a<(i:Int)) (h2:arI o.k=2->0<=o.b/\o.b<(i:Int)) (w:World) (U:Ivs w B i V) :
  Calls Tryz.prog 132 #[o.val,.slice B i D] w fun e w'=>e=.returned (.tuple #[.agg #[.float .f64 (argA o V).1,.float .f64 (argA o V).2],.agg #[.float .f64 (argB o V).1,.float .f64 (argB o V).2]])/\Below w.heap.size w w':=by
 obtain⟨k,oa,ob,n,lo,hi⟩:=o
 simp only at h1 h2
 have ar:=ar_le k
 have ca:=fun w=>arity_w k w
 unfold argA argB
 simp only
 have hh:arI k=0\/arI k=1\/arI k=2:=by omega
 rcases hh with e | e | e
 ·rw [e] at ca ⊢
  exact at_0 k oa ob n (lo,hi) _ ca w
 ·obtain⟨a0,a1⟩:=h1 (by omega)
  obtain⟨j,rfl⟩:∃j:Nat,oa=(j:Int):=⟨oa.toNat,by omega⟩
  obtain⟨xb,xo,rfl,hl,x0,x1, -⟩:=U j (by omega)
  rw [e] at ca ⊢
  exact at_1 k ob n j i D xb xo (lo,hi) (V j) ca (by omega) w hl x0 x1
 ·obtain⟨a0,a1⟩:=h1 (by omega)
  obtain⟨b0,b1⟩:=h2 e
  obtain⟨j,rfl⟩:∃j:Nat,oa=(j:Int):=⟨oa.toNat,by omega⟩
  obtain⟨m,rfl⟩:∃m:Nat,ob=(m:Int):=⟨ob.toNat,by omega⟩
  obtain⟨xb,xo,hB,hl,x0,x1, -⟩:=U j (by omega)
  obtain⟨yb,yo,hB2,hl2,y0,y1, -⟩:=U m (by omega)
  rw [hB] at hB2 ⊢
  cases hB2
  rw [e] at ca ⊢
  exact at_2 k n j m i D xb xo (lo,hi) (V j) (V m) ca (by omega) (by omega) w hl x0 x1 y0 y1
theorem args_W2 {o:Opw} {i:Nat} {w:World} {B:Option Addr} {V:Nat->Nat×Nat} (h1:1<=arI o.k->0<=o.a/\o.a<(i:Int)) (h2:arI o.k=2->0<=o.b/\o.b<(i:Int)) (U:Ivs w B i V):W2 (argA o V)/\W2 (argB o V):=by
 have ws:=ivs_words U
 unfold argA argB
 constructor
 ·split
  ·rename_i c
   exact ws _ (by have:=h1 c;omega)
  ·exact zz_W2
 ·split
  ·rename_i c
   exact ws _ (by have:=h2 c;omega)
  ·exact zz_W2
theorem nextv_w {o:Opw} {i:Nat} (B:Option Addr) (D:Nat) (V:Nat->Nat×Nat) (A:Option Addr) (m C:Nat) (X:Nat->Nat×Nat) (h:opB o (i:Int) (m:Int)=true) (hl:o.lo<18446744073709551616/\o.hi<18446744073709551616) (w:World) (U:Ivs w B i V) (VX:Ivs w A m X) :
  Calls Tryz.prog 70 #[o.val,.slice B i D,.slice A m C] w fun e w'=>e=.returned (.tuple #[.agg #[.float .f64 (if errQ o (argA o V) (argB o V) X=0 then evalQ o (argA o V) (argB o V) X else zz).1,.float .f64 (if errQ o (argA o V) (argB o V) X=0 then evalQ o (argA o V) (argB o V) X else zz).2],.int .i64 (errQ o (argA o V) (argB o V) X)])/\Below w.heap.size w w':=by
 obtain⟨hk,g1,g2,g3,g4⟩:=opB_says h
 obtain⟨wa,wb⟩:=args_W2 g1 g2 U
 have c1:=fun W (hW:Below w.heap.size w W)=>cOps B D V g1 g2 W (U.keep hW)
 have c2:=fun w=>cOut hk wa wb w
 have c3:=fun W (hW:Below w.heap.size w W)=>cVal hk wa wb A m C X g3 W (VX.keep hW)
 have ev:W2 (evalQ o (argA o V) (argB o V) X):=evalQ_W2 (fun _=>hl) (fun e=>ivs_words VX _ (by have:=g3 e;omega)) wa wb
 have c4:=fun w=>cBnd ev w
 unfold errQ
 generalize argA o V=a at *
 generalize argB o V=b at *
 generalize evalQ o a b X=v at *
 generalize outQ o a b=t at *
 generalize bndB v=u at *
 obtain⟨k,oa,ob,n,lo,hi⟩:=o
 cases t
 ·cases u
  ·exact nv_wide v k oa ob n (lo,hi) a b _ _ w c1 c2 c3 c4
  ·exact nv_ok v k oa ob n (lo,hi) a b _ _ w c1 c2 c3 c4
 ·exact nv_out k oa ob n (lo,hi) a b _ _ w c1 c2
structure HasT (w:World) (b:Nat) (v:Int) (A:Option Addr) (n C:Nat) (D:Option Addr) (m E:Nat):Prop where
 c0:w.cell? ⟨b,0,none⟩=some (.int .i64 v)
 c1:w.cell? ⟨b,1,none⟩=some (.slice A n C)
 c2:w.cell? ⟨b,2,none⟩=some (.slice D m E)
 lt:b<w.heap.size
theorem HasT.keep {w w2:World} {b:Nat} {v:Int} {A:Option Addr} {n C:Nat} {D:Option Addr} {m E:Nat} (h:HasT w b v A n C D m E) (hb:Below w.heap.size w w2):HasT w2 b v A n C D m E :=
 ⟨keepsC hb h.c0 h.lt,keepsC hb h.c1 h.lt,keepsC hb h.c2 h.lt,Nat.lt_of_lt_of_le h.lt hb.size⟩
theorem hasT_new (w:World) (v:Int) (A:Option Addr) (n C:Nat) (D:Option Addr) (m E:Nat):HasT (w.alloc (.cells #[.int .i64 v,.slice A n C,.slice D m E] 45)) w.heap.size v A n C D m E :=
 ⟨by go_simp,by go_simp,by go_simp,by go_size⟩
set_option maxHeartbeats 1000000 in
theorem ref_len (v:Int) (A:Option Addr) (n C:Nat) (D:Option Addr) (m E:Nat) (AX:Option Addr) (mx CX:Nat) (hne:((mx:Int) != v)=true) (w:World) (c1:∀W,Below w.heap.size w W->Calls Tryz.prog 63 #[tapeV v A n C D m E] W fun e' w'=>e'=.returned (.int .i64 0)/\Below W.heap.size W w') :
  Calls Tryz.prog 69 #[tapeV v A n C D m E,.slice AX mx CX] w fun e w'=>e=.returned (.int .i64 1)/\Below w.heap.size w w':=by
 unfold tapeV at *
 have T:=hasT_new w v A n C D m E
 have HB:Below w.heap.size w (w.alloc (.cells #[.int .i64 v,.slice A n C,.slice D m E] 45)):=by go_grown
 go_enter Tryz.func69,Tryz.ntmps69
 go_upto_region 1 with fail
 generalize (w.alloc (.cells #[.int .i64 v,.slice A n C,.slice D m E] 45))=V1 at *
 obtain⟨t0,t1,t2,tl⟩:=id T
 go_wp2_with (go_at_call 63;refine (c1 _ HB).mono ?_;rintro _ VV ⟨rfl,hb1⟩;replace HB:=later HB hb1;replace T:=T.keep hb1;clear t0 t1 t2 tl;obtain⟨t0,t1,t2,tl⟩:=id T)
 go_ret
 exact⟨rfl,HB⟩
def allB (m:Nat) (X:Nat->Nat×Nat):Bool:=(List.range m).all fun i=>hsB (X i).1 (X i).2
set_option maxHeartbeats 1000000 in
theorem ref_all (v:Int) (A:Option Addr) (n C:Nat) (D:Option Addr) (m E:Nat) (AX:Option Addr) (mx CX:Nat) (X:Nat->Nat×Nat) (hm:mx<=9223372036854775807) (hne:((mx:Int) != v)=false) (w:World) (VX:Ivs w AX mx X) (c1:∀W,Below w.heap.size w W->Calls Tryz.prog 63 #[tapeV v A n C D m E] W fun e' w'=>e'=.returned (.int .i64 0)/\Below W.heap.size W w') :
  Calls Tryz.prog 69 #[tapeV v A n C D m E,.slice AX mx CX] w fun e w'=>e=.returned (.int .i64 (if allB mx X then 0 else 1))/\Below w.heap.size w w':=by
 have cr:=fun (i:Nat) (h1:(X i).1<18446744073709551616) (h2:(X i).2<18446744073709551616) w=>mayHold_w (X i).1 (X i).2 h1 h2 w
 unfold tapeV at *
 have T:=hasT_new w v A n C D m E
 have HB:Below w.heap.size w (w.alloc (.cells #[.int .i64 v,.slice A n C,.slice D m E] 45)):=by go_grown
 go_enter Tryz.func69,Tryz.ntmps69
 go_upto_region 1 with fail
 generalize (w.alloc (.cells #[.int .i64 v,.slice A n C,.slice D m E] 45))=V1 at *
 obtain⟨t0,t1,t2,tl⟩:=id T
 go_wp2_with (go_at_call 63;refine (c1 _ HB).mono ?_;rintro _ VV ⟨rfl,hb1⟩;replace HB:=later HB hb1;replace T:=T.keep hb1;clear t0 t1 t2 tl;obtain⟨t0,t1,t2,tl⟩:=id T)
 clear t0 t1 t2 tl T c1
 go_loopg [20] mx (fun G s20 wx=>Below w.heap.size w wx/\∃i:Nat,i+G=mx/\s20=.int .i64 (i:Int)/\Hid (∀j,j<i->hsB (X j).1 (X j).2=true))
 case atStart=>exact⟨HB,0,by omega,rfl,fun j hj=>absurd hj (by omega)⟩
 case round =>
  clear HB
  obtain⟨HB,i,hi,rfl,hall⟩:=hrel
  by_cases ci:i=mx
  ·subst ci
   have e:allB i X=true:=by unfold allB;exact all_upto.2 hall
   go_wp2_with fail
   go_ret
   exact⟨rfl,HB⟩
  ·have hlt:(i:Int)<(mx:Int):=by omega
   obtain⟨b,o,hA,hb,x0,x1,l0,l1⟩:=(VX.keep HB) i (by omega)
   have c:=cr i l0 l1
   have hcase:hsB (X i).1 (X i).2=true\/hsB (X i).1 (X i).2=false:=by cases hsB (X i).1 (X i).2 <;> simp
   rcases hcase with hq | hq
   ·rw [hq] at c
    subst hA
    go_wp2_with (go_at_call 131;refine (c _).mono ?_;rintro _ w1 ⟨rfl,hb1⟩;replace HB:=later (below_alloc HB _) hb1)
    go_roundg (mx-i-1)
    case measure=>omega
    case rel=>exact⟨HB,i+1,by omega,by go_num,fun j hj=>by rcases Nat.lt_or_ge j i with h | h;exact hall j h;rw [show j=i by omega];exact hq⟩
   ·rw [hq] at c
    have e:allB mx X=false:=by
     unfold allB
     exact all_not (i:=i) (by omega) hq
    subst hA
    go_wp2_with (go_at_call 131;refine (c _).mono ?_;rintro _ w1 ⟨rfl,hb1⟩;replace HB:=later (below_alloc HB _) hb1)
    all_goals
     go_ret
     exact⟨rfl,HB⟩
set_option maxHeartbeats 2000000 in
theorem outs_i (v:Int) (A:Option Addr) (n C:Nat) (D:Option Addr) (m E:Nat) (Y:Nat->Int) (B:Option Addr) (k F:Nat) (V:Nat->Nat×Nat) (hm:m<=400) (hY:∀i,i<m->0<=Y i/\Y i<(k:Int)) (w:World) (U:Ivs w B k V) (VY:Ins w D m Y) :
  Calls Tryz.prog 72 #[tapeV v A n C D m E,.slice B k F] w fun e w'=>∃g,e=.returned (.slice (some ⟨g,0,none⟩) m m)/\Img w' g m (fun i=>V (Y i).toNat)/\Below w.heap.size w w':=by
 have HY:Hid (∀i,i<m->0<=Y i/\Y i<(k:Int)):=hY
 clear hY
 unfold tapeV at *
 have T:=hasT_new w v A n C D m E
 have HB:Below w.heap.size w (w.alloc (.cells #[.int .i64 v,.slice A n C,.slice D m E] 45)):=by go_grown
 go_enter Tryz.func72,Tryz.ntmps72
 go_upto_region 1 with fail
 generalize (w.alloc (.cells #[.int .i64 v,.slice A n C,.slice D m E] 45))=V1 at *
 obtain⟨t0,t1,t2,tl⟩:=id T
 go_wp2_with (at_make;refine wpList_makeI (by rfl) _ _ (by rfl) m (by rfl) (by rfl) (by omega) ?_;intro w3 hI hb3 hS3;replace T:=T.keep hb3;clear t0 t1 t2 tl;obtain⟨t0,t1,t2,tl⟩:=id T)
 clear t0 t1 t2 tl T
 have hg:w.heap.size<=V1.heap.size:=HB.size
 replace HB:=later HB hb3
 clear hb3
 generalize V1.heap.size=g at *
 go_loopg [15] m (fun G s15 wx=>Below w.heap.size w wx/\∃r:Nat,r+G=m/\s15=.int .i64 (r:Int)/\Img wx g m (fun i=>if i<r then V (Y i).toNat else (0,0)))
 case atStart=>exact⟨HB,0,by omega,rfl,hI.congr fun i _=>by simp⟩
 case round =>
  clear HB hI
  obtain⟨HB,r,hr,rfl,hI⟩:=hrel
  by_cases cr:r=m
  ·subst cr
   go_wp2_with fail
   go_ret
   exact⟨g,rfl,hI.congr fun i hi=>by simp [hi],HB⟩
  ·have hlt:(r:Int)<(m:Int):=by omega
   obtain⟨b',o',hA,hb',y0⟩:=(VY.keep HB) r (by omega)
   obtain⟨j,hj⟩:∃j:Nat,Y r=(j:Int):=⟨(Y r).toNat,by have:=HY r (by omega);omega⟩
   have hjk:(j:Int)<(k:Int):=by have:=HY r (by omega);omega
   obtain⟨xb,xo,hB,hxb,x0,x1, -⟩:=(U.keep HB) j (by omega)
   have ej:V (Y r).toNat=V j:=by rw [hj];rfl
   rw [hj] at y0
   obtain⟨i0,i1,f0,f1⟩:=id (hI.2 r (by omega))
   subst hA
   subst hB
   go_wp2_with fail
   go_roundg (m-r-1)
   case measure=>omega
   case rel =>
    refine⟨?_,r+1,by omega,by go_num,(hI.set r _ _ (by omega)).congr fun i hi=>?_⟩
    ·repeat' (first | (with_reducible exact HB) | (with_reducible refine Below.setCell ?_ ?_ _) | go_size | omega)
    ·by_cases e:i=r
     ·subst e
      simp [ej]
     ·simp only [e,if_false]
      by_cases q:i<r
      ·simp [q,show i<r+1 by omega]
      ·simp [q,show ¬i<r+1 by omega]
end Go.Proofs.YtopfabemfbdccaaGreat
