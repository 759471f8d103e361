/- An operation's value behind those ahead: nextValue. A tape's values as functions of words; nextValue answers them. Slices of intervals that a call makes: one more at their end, as many noughts, and what they hold. The program's Dot, a matrix's first row, and both images of a vector. The program's image of a vector. A tape's values: refused, atOuts and Eval of the program. -/
import Derived.Test.YtnnfafilgiajoaaGreatZ38
import Derived.Test.YtnnfafilgiajoaaGreatZ17
import Derived.Test.YtnnfafilgiajoaaGreatZ29
import Derived.Handy
namespace Go.Proofs.YtnnfafilgiajoaaGreat
open Go.ChangeShapes Go.WideShapes Go.ChangeAt Go.RowKit
set_option maxHeartbeats 1000000 in
theorem nv_out (k oa ob n:Int) (l a b:Nat×Nat) (ahead xs:Value) (w:World) (c1:∀W,Below w.heap.size w W→Calls Tryz.prog 51 #[.agg #[.int .i64 k,.int .i64 oa,.int .i64 ob,.int .i64 n,.float .f64 l.1,.float .f64 l.2],ahead] W fun e w'=>e=.returned (.tuple #[.agg #[.float .f64 a.1,.float .f64 a.2],.agg #[.float .f64 b.1,.float .f64 b.2]])∧Below W.heap.size W w') (c2:∀w,Calls Tryz.prog 52 #[.agg #[.int .i64 k,.int .i64 oa,.int .i64 ob,.int .i64 n,.float .f64 l.1,.float .f64 l.2],.agg #[.float .f64 a.1,.float .f64 a.2],.agg #[.float .f64 b.1,.float .f64 b.2]] w fun e w'=>e=.returned (.bool true)∧Below w.heap.size w w'):Calls Tryz.prog 30 #[.agg #[.int .i64 k,.int .i64 oa,.int .i64 ob,.int .i64 n,.float .f64 l.1,.float .f64 l.2],ahead,xs] w fun e w'=>e=.returned (.tuple #[.agg #[.float .f64 0,.float .f64 0],.int .i64 51])∧Below w.heap.size w w':=by
 have O:HasO ((w.alloc (.cells #[.int .i64 k,.int .i64 oa,.int .i64 ob,.int .i64 n,.float .f64 l.1,.float .f64 l.2] 45)).alloc (.cells #[.float .f64 0,.float .f64 0] 40)) w.heap.size k oa ob n l:=(hasO_new w k oa ob n l).alloc _
 have R:Has2 ((w.alloc (.cells #[.int .i64 k,.int .i64 oa,.int .i64 ob,.int .i64 n,.float .f64 l.1,.float .f64 l.2] 45)).alloc (.cells #[.float .f64 0,.float .f64 0] 40)) (w.heap.size+1) (.float .f64 0) (.float .f64 0):=⟨by go_simp,by go_simp,by go_simp,by go_simp,by go_size⟩
 have HB:Below w.heap.size w ((w.alloc (.cells #[.int .i64 k,.int .i64 oa,.int .i64 ob,.int .i64 n,.float .f64 l.1,.float .f64 l.2] 45)).alloc (.cells #[.float .f64 0,.float .f64 0] 40)):=by go_grown
 go_enter Tryz.func30,Tryz.ntmps30
 go_upto_region 1 with fail
 generalize (w.alloc (.cells #[.int .i64 k,.int .i64 oa,.int .i64 ob,.int .i64 n,.float .f64 l.1,.float .f64 l.2] 45)).alloc (.cells #[.float .f64 0,.float .f64 0] 40)=V1 at *
 obtain⟨o0,o1,o2,o3,o4,o5,ol⟩:=id O
 go_upto_region 2 with (go_at_call 51;refine (c1 _ HB).mono ?_;rintro _ VV ⟨rfl,hb1⟩;replace O:=O.keep hb1;replace R:=R.keep hb1;replace HB:=later HB hb1;clear hb1)
 clear c1 o0 o1 o2 o3 o4 o5 ol
 have hb1:Below VV.heap.size VV ((VV.alloc (.cells #[.float .f64 a.1,.float .f64 a.2] 40)).alloc (.cells #[.float .f64 b.1,.float .f64 b.2] 40)):=by go_grown
 have X:Has2 ((VV.alloc (.cells #[.float .f64 a.1,.float .f64 a.2] 40)).alloc (.cells #[.float .f64 b.1,.float .f64 b.2] 40)) VV.heap.size (.float .f64 a.1) (.float .f64 a.2):=⟨by go_simp,by go_simp,by go_simp,by go_simp,by go_size⟩
 have Y:Has2 ((VV.alloc (.cells #[.float .f64 a.1,.float .f64 a.2] 40)).alloc (.cells #[.float .f64 b.1,.float .f64 b.2] 40)) (VV.heap.size+1) (.float .f64 b.1) (.float .f64 b.2):=⟨by go_simp,by go_simp,by go_simp,by go_simp,by go_size⟩
 replace O:=O.keep hb1;replace R:=R.keep hb1;replace HB:=later HB hb1;clear hb1
 generalize ((VV.alloc (.cells #[.float .f64 a.1,.float .f64 a.2] 40)).alloc (.cells #[.float .f64 b.1,.float .f64 b.2] 40))=V2 at *
 generalize VV.heap.size=d at *
 obtain⟨o0,o1,o2,o3,o4,o5,ol⟩:=id O
 obtain⟨p0,p1,p2,p3,p4⟩:=id X
 obtain⟨q0,q1,q2,q3,q4⟩:=id Y
 go_wp2_with (go_at_call 52;refine (c2 _).mono ?_;rintro _ V3 ⟨rfl,hb1⟩;replace R:=R.keep hb1;replace HB:=later HB hb1;clear hb1;obtain⟨k0,k1,k2,k3,k4⟩:=id R)
 refine bodyPost_ret (v:=.tuple #[.agg #[.float .f64 0,.float .f64 0],.int .i64 51]) (by simp [results,Tryz.results30,go_sem, *]) rfl ⟨rfl, ?_⟩;repeat' (first | (with_reducible exact HB) | (with_reducible refine Below.setCell ?_ ?_ _) | go_size)
set_option maxHeartbeats 1000000 in
theorem nv_wide (v:Nat×Nat) (k oa ob n:Int) (l a b:Nat×Nat) (ahead xs:Value) (w:World) (c1:∀W,Below w.heap.size w W→Calls Tryz.prog 51 #[.agg #[.int .i64 k,.int .i64 oa,.int .i64 ob,.int .i64 n,.float .f64 l.1,.float .f64 l.2],ahead] W fun e w'=>e=.returned (.tuple #[.agg #[.float .f64 a.1,.float .f64 a.2],.agg #[.float .f64 b.1,.float .f64 b.2]])∧Below W.heap.size W w') (c2:∀w,Calls Tryz.prog 52 #[.agg #[.int .i64 k,.int .i64 oa,.int .i64 ob,.int .i64 n,.float .f64 l.1,.float .f64 l.2],.agg #[.float .f64 a.1,.float .f64 a.2],.agg #[.float .f64 b.1,.float .f64 b.2]] w fun e w'=>e=.returned (.bool false)∧Below w.heap.size w w') (c3:∀W,Below w.heap.size w W→Calls Tryz.prog 53 #[.agg #[.int .i64 k,.int .i64 oa,.int .i64 ob,.int .i64 n,.float .f64 l.1,.float .f64 l.2],.agg #[.float .f64 a.1,.float .f64 a.2],.agg #[.float .f64 b.1,.float .f64 b.2],xs] W fun e w'=>e=.returned (.agg #[.float .f64 v.1,.float .f64 v.2])∧Below W.heap.size W w') (c4:∀w,Calls Tryz.prog 54 #[.agg #[.float .f64 v.1,.float .f64 v.2]] w fun e w'=>e=.returned (.bool false)∧Below w.heap.size w w'):Calls Tryz.prog 30 #[.agg #[.int .i64 k,.int .i64 oa,.int .i64 ob,.int .i64 n,.float .f64 l.1,.float .f64 l.2],ahead,xs] w fun e w'=>e=.returned (.tuple #[.agg #[.float .f64 0,.float .f64 0],.int .i64 5])∧Below w.heap.size w w':=by
 have O:HasO ((w.alloc (.cells #[.int .i64 k,.int .i64 oa,.int .i64 ob,.int .i64 n,.float .f64 l.1,.float .f64 l.2] 45)).alloc (.cells #[.float .f64 0,.float .f64 0] 40)) w.heap.size k oa ob n l:=(hasO_new w k oa ob n l).alloc _
 have R:Has2 ((w.alloc (.cells #[.int .i64 k,.int .i64 oa,.int .i64 ob,.int .i64 n,.float .f64 l.1,.float .f64 l.2] 45)).alloc (.cells #[.float .f64 0,.float .f64 0] 40)) (w.heap.size+1) (.float .f64 0) (.float .f64 0):=⟨by go_simp,by go_simp,by go_simp,by go_simp,by go_size⟩
 have HB:Below w.heap.size w ((w.alloc (.cells #[.int .i64 k,.int .i64 oa,.int .i64 ob,.int .i64 n,.float .f64 l.1,.float .f64 l.2] 45)).alloc (.cells #[.float .f64 0,.float .f64 0] 40)):=by go_grown
 go_enter Tryz.func30,Tryz.ntmps30
 go_upto_region 1 with fail
 generalize (w.alloc (.cells #[.int .i64 k,.int .i64 oa,.int .i64 ob,.int .i64 n,.float .f64 l.1,.float .f64 l.2] 45)).alloc (.cells #[.float .f64 0,.float .f64 0] 40)=V1 at *
 obtain⟨o0,o1,o2,o3,o4,o5,ol⟩:=id O
 go_upto_region 2 with (go_at_call 51;refine (c1 _ HB).mono ?_;rintro _ VV ⟨rfl,hb1⟩;replace O:=O.keep hb1;replace R:=R.keep hb1;replace HB:=later HB hb1;clear hb1)
 clear c1 o0 o1 o2 o3 o4 o5 ol
 have hb1:Below VV.heap.size VV ((VV.alloc (.cells #[.float .f64 a.1,.float .f64 a.2] 40)).alloc (.cells #[.float .f64 b.1,.float .f64 b.2] 40)):=by go_grown
 have X:Has2 ((VV.alloc (.cells #[.float .f64 a.1,.float .f64 a.2] 40)).alloc (.cells #[.float .f64 b.1,.float .f64 b.2] 40)) VV.heap.size (.float .f64 a.1) (.float .f64 a.2):=⟨by go_simp,by go_simp,by go_simp,by go_simp,by go_size⟩
 have Y:Has2 ((VV.alloc (.cells #[.float .f64 a.1,.float .f64 a.2] 40)).alloc (.cells #[.float .f64 b.1,.float .f64 b.2] 40)) (VV.heap.size+1) (.float .f64 b.1) (.float .f64 b.2):=⟨by go_simp,by go_simp,by go_simp,by go_simp,by go_size⟩
 replace O:=O.keep hb1;replace R:=R.keep hb1;replace HB:=later HB hb1;clear hb1
 generalize ((VV.alloc (.cells #[.float .f64 a.1,.float .f64 a.2] 40)).alloc (.cells #[.float .f64 b.1,.float .f64 b.2] 40))=V2 at *
 generalize VV.heap.size=d at *
 obtain⟨o0,o1,o2,o3,o4,o5,ol⟩:=id O
 obtain⟨p0,p1,p2,p3,p4⟩:=id X
 obtain⟨q0,q1,q2,q3,q4⟩:=id Y
 go_upto_region 4 with (go_at_call 52;refine (c2 _).mono ?_;rintro _ VV ⟨rfl,hb1⟩;replace O:=O.keep hb1;replace R:=R.keep hb1;replace X:=X.keep hb1;replace Y:=Y.keep hb1;replace HB:=later HB hb1;clear hb1)
 clear o0 o1 o2 o3 o4 o5 ol p0 p1 p2 p3 p4 q0 q1 q2 q3 q4 c2
 obtain⟨o0,o1,o2,o3,o4,o5,ol⟩:=id O
 obtain⟨p0,p1,p2,p3,p4⟩:=id X
 obtain⟨q0,q1,q2,q3,q4⟩:=id Y
 go_upto_region 5 with (go_at_call 53;refine (c3 _ HB).mono ?_;rintro _ VV ⟨rfl,hb1⟩;replace R:=R.keep hb1;replace HB:=later HB hb1;clear hb1)
 clear o0 o1 o2 o3 o4 o5 ol p0 p1 p2 p3 p4 q0 q1 q2 q3 q4 c3 O X Y
 have hb1:Below VV.heap.size VV (VV.alloc (.cells #[.float .f64 v.1,.float .f64 v.2] 40)):=by go_grown
 have Z:Has2 (VV.alloc (.cells #[.float .f64 v.1,.float .f64 v.2] 40)) VV.heap.size (.float .f64 v.1) (.float .f64 v.2):=has2_new _ _ _ _
 replace R:=R.keep hb1;replace HB:=later HB hb1;clear hb1
 generalize (VV.alloc (.cells #[.float .f64 v.1,.float .f64 v.2] 40))=V4 at *
 generalize VV.heap.size=z at *
 obtain⟨y0,y1,y2,y3,y4⟩:=id Z
 go_wp2_with (go_at_call 54;refine (c4 _).mono ?_;rintro _ V5 ⟨rfl,hb1⟩;replace R:=R.keep hb1;replace HB:=later HB hb1;clear hb1;obtain⟨k0,k1,k2,k3,k4⟩:=id R)
 refine bodyPost_ret (v:=.tuple #[.agg #[.float .f64 0,.float .f64 0],.int .i64 5]) (by simp [results,Tryz.results30,go_sem, *]) rfl ⟨rfl, ?_⟩;repeat' (first | (with_reducible exact HB) | (with_reducible refine Below.setCell ?_ ?_ _) | go_size)
set_option maxHeartbeats 1000000 in
theorem nv_ok (v:Nat×Nat) (k oa ob n:Int) (l a b:Nat×Nat) (ahead xs:Value) (w:World) (c1:∀W,Below w.heap.size w W→Calls Tryz.prog 51 #[.agg #[.int .i64 k,.int .i64 oa,.int .i64 ob,.int .i64 n,.float .f64 l.1,.float .f64 l.2],ahead] W fun e w'=>e=.returned (.tuple #[.agg #[.float .f64 a.1,.float .f64 a.2],.agg #[.float .f64 b.1,.float .f64 b.2]])∧Below W.heap.size W w') (c2:∀w,Calls Tryz.prog 52 #[.agg #[.int .i64 k,.int .i64 oa,.int .i64 ob,.int .i64 n,.float .f64 l.1,.float .f64 l.2],.agg #[.float .f64 a.1,.float .f64 a.2],.agg #[.float .f64 b.1,.float .f64 b.2]] w fun e w'=>e=.returned (.bool false)∧Below w.heap.size w w') (c3:∀W,Below w.heap.size w W→Calls Tryz.prog 53 #[.agg #[.int .i64 k,.int .i64 oa,.int .i64 ob,.int .i64 n,.float .f64 l.1,.float .f64 l.2],.agg #[.float .f64 a.1,.float .f64 a.2],.agg #[.float .f64 b.1,.float .f64 b.2],xs] W fun e w'=>e=.returned (.agg #[.float .f64 v.1,.float .f64 v.2])∧Below W.heap.size W w') (c4:∀w,Calls Tryz.prog 54 #[.agg #[.float .f64 v.1,.float .f64 v.2]] w fun e w'=>e=.returned (.bool true)∧Below w.heap.size w w'):Calls Tryz.prog 30 #[.agg #[.int .i64 k,.int .i64 oa,.int .i64 ob,.int .i64 n,.float .f64 l.1,.float .f64 l.2],ahead,xs] w fun e w'=>e=.returned (.tuple #[.agg #[.float .f64 v.1,.float .f64 v.2],.int .i64 0])∧Below w.heap.size w w':=by
 have O:HasO ((w.alloc (.cells #[.int .i64 k,.int .i64 oa,.int .i64 ob,.int .i64 n,.float .f64 l.1,.float .f64 l.2] 45)).alloc (.cells #[.float .f64 0,.float .f64 0] 40)) w.heap.size k oa ob n l:=(hasO_new w k oa ob n l).alloc _
 have R:Has2 ((w.alloc (.cells #[.int .i64 k,.int .i64 oa,.int .i64 ob,.int .i64 n,.float .f64 l.1,.float .f64 l.2] 45)).alloc (.cells #[.float .f64 0,.float .f64 0] 40)) (w.heap.size+1) (.float .f64 0) (.float .f64 0):=⟨by go_simp,by go_simp,by go_simp,by go_simp,by go_size⟩
 have HB:Below w.heap.size w ((w.alloc (.cells #[.int .i64 k,.int .i64 oa,.int .i64 ob,.int .i64 n,.float .f64 l.1,.float .f64 l.2] 45)).alloc (.cells #[.float .f64 0,.float .f64 0] 40)):=by go_grown
 go_enter Tryz.func30,Tryz.ntmps30
 go_upto_region 1 with fail
 generalize (w.alloc (.cells #[.int .i64 k,.int .i64 oa,.int .i64 ob,.int .i64 n,.float .f64 l.1,.float .f64 l.2] 45)).alloc (.cells #[.float .f64 0,.float .f64 0] 40)=V1 at *
 obtain⟨o0,o1,o2,o3,o4,o5,ol⟩:=id O
 go_upto_region 2 with (go_at_call 51;refine (c1 _ HB).mono ?_;rintro _ VV ⟨rfl,hb1⟩;replace O:=O.keep hb1;replace R:=R.keep hb1;replace HB:=later HB hb1;clear hb1)
 clear c1 o0 o1 o2 o3 o4 o5 ol
 have hb1:Below VV.heap.size VV ((VV.alloc (.cells #[.float .f64 a.1,.float .f64 a.2] 40)).alloc (.cells #[.float .f64 b.1,.float .f64 b.2] 40)):=by go_grown
 have X:Has2 ((VV.alloc (.cells #[.float .f64 a.1,.float .f64 a.2] 40)).alloc (.cells #[.float .f64 b.1,.float .f64 b.2] 40)) VV.heap.size (.float .f64 a.1) (.float .f64 a.2):=⟨by go_simp,by go_simp,by go_simp,by go_simp,by go_size⟩
 have Y:Has2 ((VV.alloc (.cells #[.float .f64 a.1,.float .f64 a.2] 40)).alloc (.cells #[.float .f64 b.1,.float .f64 b.2] 40)) (VV.heap.size+1) (.float .f64 b.1) (.float .f64 b.2):=⟨by go_simp,by go_simp,by go_simp,by go_simp,by go_size⟩
 replace O:=O.keep hb1;replace R:=R.keep hb1;replace HB:=later HB hb1;clear hb1
 generalize ((VV.alloc (.cells #[.float .f64 a.1,.float .f64 a.2] 40)).alloc (.cells #[.float .f64 b.1,.float .f64 b.2] 40))=V2 at *
 generalize VV.heap.size=d at *
 obtain⟨o0,o1,o2,o3,o4,o5,ol⟩:=id O
 obtain⟨p0,p1,p2,p3,p4⟩:=id X
 obtain⟨q0,q1,q2,q3,q4⟩:=id Y
 go_upto_region 4 with (go_at_call 52;refine (c2 _).mono ?_;rintro _ VV ⟨rfl,hb1⟩;replace O:=O.keep hb1;replace R:=R.keep hb1;replace X:=X.keep hb1;replace Y:=Y.keep hb1;replace HB:=later HB hb1;clear hb1)
 clear o0 o1 o2 o3 o4 o5 ol p0 p1 p2 p3 p4 q0 q1 q2 q3 q4 c2
 obtain⟨o0,o1,o2,o3,o4,o5,ol⟩:=id O
 obtain⟨p0,p1,p2,p3,p4⟩:=id X
 obtain⟨q0,q1,q2,q3,q4⟩:=id Y
 go_upto_region 5 with (go_at_call 53;refine (c3 _ HB).mono ?_;rintro _ VV ⟨rfl,hb1⟩;replace R:=R.keep hb1;replace HB:=later HB hb1;clear hb1)
 clear o0 o1 o2 o3 o4 o5 ol p0 p1 p2 p3 p4 q0 q1 q2 q3 q4 c3 O X Y
 have hb1:Below VV.heap.size VV (VV.alloc (.cells #[.float .f64 v.1,.float .f64 v.2] 40)):=by go_grown
 have Z:Has2 (VV.alloc (.cells #[.float .f64 v.1,.float .f64 v.2] 40)) VV.heap.size (.float .f64 v.1) (.float .f64 v.2):=has2_new _ _ _ _
 replace R:=R.keep hb1;replace HB:=later HB hb1;clear hb1
 generalize (VV.alloc (.cells #[.float .f64 v.1,.float .f64 v.2] 40))=V4 at *
 generalize VV.heap.size=z at *
 obtain⟨y0,y1,y2,y3,y4⟩:=id Z
 go_wp2_with (go_at_call 54;refine (c4 _).mono ?_;rintro _ V5 ⟨rfl,hb1⟩;replace R:=R.keep hb1;replace Z:=Z.keep hb1;replace HB:=later HB hb1;clear hb1;clear y0 y1 y2 y3 y4;obtain⟨y0,y1,y2,y3,y4⟩:=id Z;obtain⟨k0,k1,k2,k3,k4⟩:=id R)
 refine bodyPost_ret (v:=.tuple #[.agg #[.float .f64 v.1,.float .f64 v.2],.int .i64 0]) (by simp [results,Tryz.results30,go_sem, *]) rfl ⟨rfl, ?_⟩;repeat' (first | (with_reducible exact HB) | (with_reducible refine Below.setCell ?_ ?_ _) | go_size)
def powQ (p:Nat×Nat) (n:Int):Nat×Nat:=powP p.1 p.2 n
theorem powQ_W2 {p:Nat×Nat} (hp:W2 p) (n:Int):W2 (powQ p n):=powP_lt hp.1 hp.2 n
theorem cPow {p:Nat×Nat} (hp:W2 p) (n:Int) (w:World):Calls Tryz.prog 88 #[.agg #[.float .f64 p.1,.float .f64 p.2],.int .i64 n] w fun e w'=>e=.returned (.agg #[.float .f64 (powQ p n).1,.float .f64 (powQ p n).2])∧Below w.heap.size w w':=Pow_w p.1 p.2 hp.1 hp.2 n w
def zz:Nat×Nat:=(0,0)
theorem zz_W2:W2 zz:=by decide
def evalQ (o:Opw) (a b:Nat×Nat) (X:Nat→Nat×Nat):Nat×Nat :=
 if o.k=1 then (o.lo,o.hi) else if o.k=2 then X o.n.toNat else if o.k=3 then addQ a b else if o.k=4 then subQ a b else if o.k=5 then mulQ a b else if o.k=6 then divQ a b else if o.k=7 then negQ a
 else if o.k=8 then powQ a o.n else if o.k=9 then sqrtQ a else if o.k=10 then expQ a else if o.k=11 then logQ a else if o.k=12 then sinQ a else if o.k=13 then cosQ a else atanQ a
def outQ (o:Opw) (a b:Nat×Nat):Bool:=if o.k=6 then hasB b.1 b.2 0 else if o.k=8 then decide (o.n<0)&&hasB a.1 a.2 0 else if o.k=9 then ltB a.1 0 else if o.k=11 then leB a.1 0 else false
def argA (o:Opw) (V:Nat→Nat×Nat):Nat×Nat:=if 1≤arI o.k then V o.a.toNat else zz
def argB (o:Opw) (V:Nat→Nat×Nat):Nat×Nat:=if arI o.k=2 then V o.b.toNat else zz
def errQ (o:Opw) (a b:Nat×Nat) (X:Nat→Nat×Nat):Int:=if outQ o a b then 51 else if bndB (evalQ o a b X) then 0 else 5
theorem cOut {o:Opw} (hk:1≤o.k∧o.k≤14) {a b:Nat×Nat} (ha:W2 a) (hb:W2 b) (w:World):Calls Tryz.prog 52 #[o.val,.agg #[.float .f64 a.1,.float .f64 a.2],.agg #[.float .f64 b.1,.float .f64 b.2]] w fun e w'=>e=.returned (.bool (outQ o a b))∧Below w.heap.size w w':=by
 obtain⟨k,oa,ob,n,lo,hi⟩:=o
 have hh:k=1∨k=2∨k=3∨k=4∨k=5∨k=6∨k=7∨k=8∨k=9∨k=10∨k=11∨k=12∨k=13∨k=14:=by
   have:=hk.1;have:=hk.2;simp only at *;omega
 rcases hh with rfl | rfl | rfl | rfl | rfl | rfl | rfl | rfl | rfl | rfl | rfl | rfl | rfl | rfl
 · exact io_1 oa ob n (lo,hi) a b w
 · exact io_2 oa ob n (lo,hi) a b w
 · exact io_3 oa ob n (lo,hi) a b w
 · exact io_4 oa ob n (lo,hi) a b w
 · exact io_5 oa ob n (lo,hi) a b w
 · exact io_6 oa ob n (lo,hi) a b _ (fun w=>has_w b.1 b.2 0 hb.1 hb.2 (by omega) w) w
 · exact io_7 oa ob n (lo,hi) a b w
 · have e:outQ ⟨8,oa,ob,n,lo,hi⟩ a b=(decide (n<0)&&hasB a.1 a.2 0):=rfl
   rw [e]
   exact io_8 oa ob n (lo,hi) a b _ (fun hn w=>by rw [decide_eq_true hn,Bool.true_and];exact has_w a.1 a.2 0 ha.1 ha.2 (by omega) w) (fun hn=>by rw [decide_eq_false hn];rfl) w
 · exact io_9 oa ob n (lo,hi) a b _ (o_lt ha.1 (by omega)) w
 · exact io_10 oa ob n (lo,hi) a b w
 · exact io_11 oa ob n (lo,hi) a b _ (o_le ha.1 (by omega)) w
 · exact io_12 oa ob n (lo,hi) a b w
 · exact io_13 oa ob n (lo,hi) a b w
 · exact io_14 oa ob n (lo,hi) a b w
theorem cVal {o:Opw} (hk:1≤o.k∧o.k≤14) {a b:Nat×Nat} (ha:W2 a) (hb:W2 b) (A:Option Addr) (m C:Nat) (X:Nat→Nat×Nat) (hn:o.k=2→0≤o.n∧o.n<(m:Int)) (w:World) (V:Ivs w A m X) :
   Calls Tryz.prog 53 #[o.val,.agg #[.float .f64 a.1,.float .f64 a.2],.agg #[.float .f64 b.1,.float .f64 b.2],.slice A m C] w fun e w'=>e=.returned (.agg #[.float .f64 (evalQ o a b X).1,.float .f64 (evalQ o a b X).2])∧Below w.heap.size w w':=by
 obtain⟨k,oa,ob,n,lo,hi⟩:=o
 have hh:k=1∨k=2∨k=3∨k=4∨k=5∨k=6∨k=7∨k=8∨k=9∨k=10∨k=11∨k=12∨k=13∨k=14:=by
   have:=hk.1;have:=hk.2;simp only at *;omega
 rcases hh with rfl | rfl | rfl | rfl | rfl | rfl | rfl | rfl | rfl | rfl | rfl | rfl | rfl | rfl
 · exact vo_1 oa ob n (lo,hi) a b _ w
 · obtain⟨h0,h1⟩:=hn rfl
   simp only at h0 h1
   obtain⟨i,rfl⟩:∃i:Nat,n=(i:Int):=⟨n.toNat,by omega⟩
   obtain⟨xb,xo,rfl,hl,x0,x1, -⟩:=V i (by omega)
   have e:evalQ ⟨2,oa,ob,(i:Int),lo,hi⟩ a b X=X i:=rfl
   rw [e]
   exact vo_2 oa ob i m C xb xo (lo,hi) a b (X i) (by omega) w hl x0 x1
 · exact vo_3 oa ob n (lo,hi) a b _ _ (fun w=>cAdd ha hb w) w
 · exact vo_4 oa ob n (lo,hi) a b _ _ (fun w=>cSub ha hb w) w
 · exact vo_5 oa ob n (lo,hi) a b _ _ (fun w=>cMul ha hb w) w
 · exact vo_6 oa ob n (lo,hi) a b _ _ (fun w=>cDiv ha hb w) w
 · exact vo_7 oa ob n (lo,hi) a b _ _ (fun w=>cNeg ha w) w
 · exact vo_8 oa ob n (lo,hi) a b _ _ (fun w=>cPow ha n w) w
 · exact vo_9 oa ob n (lo,hi) a b _ _ (fun w=>cSqrt ha w) w
 · exact vo_10 oa ob n (lo,hi) a b _ _ (fun w=>cExp ha w) w
 · exact vo_11 oa ob n (lo,hi) a b _ _ (fun w=>cLog ha w) w
 · exact vo_12 oa ob n (lo,hi) a b _ _ (fun w=>cSin ha w) w
 · exact vo_13 oa ob n (lo,hi) a b _ _ (fun w=>cCos ha w) w
 · exact vo_14 oa ob n (lo,hi) a b _ _ (fun w=>cAtan ha w) w
theorem evalQ_W2 {o:Opw} {a b:Nat×Nat} {X:Nat→Nat×Nat} (ho:o.k=1→W2 (o.lo,o.hi)) (hX:o.k=2→W2 (X o.n.toNat)) (ha:W2 a) (hb:W2 b):W2 (evalQ o a b X):=by
 unfold evalQ
 by_cases h1:o.k=1
 · rw [if_pos h1];exact ho h1
 rw [if_neg h1]
 by_cases h2:o.k=2
 · rw [if_pos h2];exact hX h2
 rw [if_neg h2]
 clear h1 h2
 split
 · exact addQ_W2 ha hb
 split
 · exact subQ_W2 ha hb
 split
 · exact mulQ_W2 ha hb
 split
 · exact divQ_W2 ha hb
 split
 · exact negQ_W2 ha
 split
 · exact powQ_W2 ha _
 split
 · exact sqrtQ_W2 ha
 split
 · exact expQ_W2 ha
 split
 · exact logQ_W2 ha
 split
 · exact waveQ_W2 ha 0
 split
 · exact waveQ_W2 ha 1
 · exact atanQ_W2 ha
theorem opB_says {o:Opw} {i:Nat} {vars:Int} (h:opB o (i:Int) vars=true):(1≤o.k∧o.k≤14)∧(1≤arI o.k→0≤o.a∧o.a<(i:Int))∧(arI o.k=2→0≤o.b∧o.b<(i:Int))∧(o.k=2→0≤o.n∧o.n<vars)∧(o.k=1→hsB o.lo o.hi=true):=by
 unfold opB at h
 simp only [Bool.and_eq_true,decide_eq_true_eq] at h
 obtain⟨⟨hk,hd⟩,hr⟩:=h
 unfold opdB at hd
 rw [all_upto2] at hd
 have ar:=ar_le o.k
 refine⟨hk,fun h1=>?_,fun h2=>?_,fun h2=>?_,fun h1=>?_⟩
 · have:=hd 0 (by unfold Opw.ar;omega)
   unfold oneOf Opw.at at this
   simpa using this
 · have:=hd 1 (by unfold Opw.ar;omega)
   unfold oneOf Opw.at at this
   simpa using this
 · unfold restB at hr
   rw [if_neg (by omega),if_pos h2] at hr
   unfold oneOf at hr
   simpa using hr
 · unfold restB at hr
   rw [if_pos h1] at hr
   exact hr
theorem cOps {o:Opw} {i:Nat} (B:Option Addr) (D:Nat) (V:Nat→Nat×Nat) (h1:1≤arI o.k→0≤o.a∧o.a<(i:Int)) (h2:arI o.k=2→0≤o.b∧o.b<(i:Int)) (w:World) (U:Ivs w B i V) :
   Calls Tryz.prog 51 #[o.val,.slice B i D] w fun e w'=>e=.returned (.tuple #[.agg #[.float .f64 (argA o V).1,.float .f64 (argA o V).2],.agg #[.float .f64 (argB o V).1,.float .f64 (argB o V).2]])∧Below w.heap.size w w':=by
 obtain⟨k,oa,ob,n,lo,hi⟩:=o
 simp only at h1 h2
 have ar:=ar_le k
 have ca:=fun w=>arity_w k w
 unfold argA argB
 simp only
 have hh:arI k=0∨arI k=1∨arI k=2:=by omega
 rcases hh with e | e | e
 · rw [e] at ca ⊢
   exact at_0 k oa ob n (lo,hi) _ ca w
 · obtain⟨a0,a1⟩:=h1 (by omega)
   obtain⟨j,rfl⟩:∃j:Nat,oa=(j:Int):=⟨oa.toNat,by omega⟩
   obtain⟨xb,xo,rfl,hl,x0,x1, -⟩:=U j (by omega)
   rw [e] at ca ⊢
   exact at_1 k ob n j i D xb xo (lo,hi) (V j) ca (by omega) w hl x0 x1
 · obtain⟨a0,a1⟩:=h1 (by omega)
   obtain⟨b0,b1⟩:=h2 e
   obtain⟨j,rfl⟩:∃j:Nat,oa=(j:Int):=⟨oa.toNat,by omega⟩
   obtain⟨m,rfl⟩:∃m:Nat,ob=(m:Int):=⟨ob.toNat,by omega⟩
   obtain⟨xb,xo,hB,hl,x0,x1, -⟩:=U j (by omega)
   obtain⟨yb,yo,hB2,hl2,y0,y1, -⟩:=U m (by omega)
   rw [hB] at hB2 ⊢
   cases hB2
   rw [e] at ca ⊢
   exact at_2 k n j m i D xb xo (lo,hi) (V j) (V m) ca (by omega) (by omega) w hl x0 x1 y0 y1
theorem args_W2 {o:Opw} {i:Nat} {w:World} {B:Option Addr} {V:Nat→Nat×Nat} (h1:1≤arI o.k→0≤o.a∧o.a<(i:Int)) (h2:arI o.k=2→0≤o.b∧o.b<(i:Int)) (U:Ivs w B i V):W2 (argA o V)∧W2 (argB o V):=by
 have ws:=ivs_words U
 unfold argA argB
 constructor
 · split
   · rename_i c
     exact ws _ (by have:=h1 c;omega)
   · exact zz_W2
 · split
   · rename_i c
     exact ws _ (by have:=h2 c;omega)
   · exact zz_W2
theorem nextv_w {o:Opw} {i:Nat} (B:Option Addr) (D:Nat) (V:Nat→Nat×Nat) (A:Option Addr) (m C:Nat) (X:Nat→Nat×Nat) (h:opB o (i:Int) (m:Int)=true) (hl:o.lo<18446744073709551616∧o.hi<18446744073709551616) (w:World) (U:Ivs w B i V) (VX:Ivs w A m X) :
   Calls Tryz.prog 30 #[o.val,.slice B i D,.slice A m C] w fun e w'=>e=.returned (.tuple #[.agg #[.float .f64 (if errQ o (argA o V) (argB o V) X=0 then evalQ o (argA o V) (argB o V) X else zz).1,.float .f64 (if errQ o (argA o V) (argB o V) X=0 then evalQ o (argA o V) (argB o V) X else zz).2],.int .i64 (errQ o (argA o V) (argB o V) X)])∧Below w.heap.size w w':=by
 obtain⟨hk,g1,g2,g3,g4⟩:=opB_says h
 obtain⟨wa,wb⟩:=args_W2 g1 g2 U
 have c1:=fun W (hW:Below w.heap.size w W)=>cOps B D V g1 g2 W (U.keep hW)
 have c2:=fun w=>cOut hk wa wb w
 have c3:=fun W (hW:Below w.heap.size w W)=>cVal hk wa wb A m C X g3 W (VX.keep hW)
 have ev:W2 (evalQ o (argA o V) (argB o V) X):=evalQ_W2 (fun _=>hl) (fun e=>ivs_words VX _ (by have:=g3 e;omega)) wa wb
 have c4:=fun w=>cBnd ev w
 unfold errQ
 generalize argA o V=a at *
 generalize argB o V=b at *
 generalize evalQ o a b X=v at *
 generalize outQ o a b=t at *
 generalize bndB v=u at *
 obtain⟨k,oa,ob,n,lo,hi⟩:=o
 cases t
 · cases u
   · exact nv_wide v k oa ob n (lo,hi) a b _ _ w c1 c2 c3 c4
   · exact nv_ok v k oa ob n (lo,hi) a b _ _ w c1 c2 c3 c4
 · exact nv_out k oa ob n (lo,hi) a b _ _ w c1 c2
def ivCells (xs:List (Nat×Nat)):List Value:=xs.flatMap fun p=>[.float .f64 p.1,.float .f64 p.2]
theorem ivCells_len (xs:List (Nat×Nat)):(ivCells xs).length=xs.length*2:=by
 induction xs with
 | nil=>rfl
 | cons p t ih =>
   have e:ivCells (p :: t)=.float .f64 p.1 :: .float .f64 p.2 :: ivCells t:=rfl
   rw [e]
   simp only [List.length_cons]
   omega
theorem ivCells_at (xs:List (Nat×Nat)) (i:Nat) (p:Nat×Nat) (h:xs[i]?=some p):(ivCells xs)[i*2]?=some (.float .f64 p.1)∧(ivCells xs)[i*2+1]?=some (.float .f64 p.2):=by
 induction xs generalizing i with
 | nil=>simp at h
 | cons q t ih =>
   have e:ivCells (q :: t)=.float .f64 q.1 :: .float .f64 q.2 :: ivCells t:=rfl
   rw [e]
   cases i with
   | zero =>
     simp at h
     subst h
     exact⟨rfl,rfl⟩
   | succ i =>
     have h':t[i]?=some p:=by simpa using h
     have:=ih i h'
     rw [show (i+1)*2=i*2+2 by omega,show i*2+2+1=(i*2+1)+2 by omega]
     simpa using this
def OwnI (B:Nat) (w:World) (v:Value) (xs:List (Nat×Nat)):Prop:=w.ownsRow B 40 2 v xs.length (ivCells xs)
theorem Tryz.infoIval:(Tryz.prog.info? 40).map (fun i=>(i.zero,i.size,i.bytes))=some (some (.agg #[.float .f64 0,.float .f64 0]),2,16):=by kernel_rfl
theorem ownI_empty (w:World):OwnI w.heap.size (w.alloc (.cells #[] 40)) (.slice (some ⟨w.heap.size,0,none⟩) 0 0) []:=World.ownsRow_made w #[] 0 (Nat.le_refl _) (Nat.zero_le _) rfl
theorem wpList_pushI {B:Nat} {w0 wr:World} {ops:Array Oper} {rest:List Oper} {o:Oper} {a:Act} {Q:Exit→Act→World→Prop} (hgd:o.guard=none) (s x:Operand)
   (ho:o.op=.call { callee:=.builtin .append,args:=#[s,x],argTypes:=#[26,26] }) (v:Value) (xs:List (Nat×Nat)) (p q:Nat) (hs:a.eval s=v) (hx:a.eval x=.slice (some ⟨wr.heap.size,0,none⟩) 1 1)
   (hown:OwnI B wr v xs) (hl:xs.length≤2000000) (hB:B≤wr.heap.size) (hbel:Below B w0 wr)
   (h:∀v' w',OwnI B w' v' (xs++[(p,q)])→Below B w0 w'→B≤w'.heap.size→wpList Tryz.prog ops Q rest (a.put o.dst v') w'):wpList Tryz.prog ops Q (o :: rest) a (wr.alloc (.cells #[.float .f64 p,.float .f64 q] 40)):=by
 obtain⟨i0,hi,hz0,hz1,hz2⟩:=info_parts Tryz.infoIval
 refine wpList_append_own _ hgd s x 26 ho B 40 i0 (.agg #[.float .f64 0,.float .f64 0]) 2 16 Tryz.underlying26 hi hz0 hz1 hz2 rfl (by decide) v xs.length (ivCells xs) hs (hown.alloc _) ⟨wr.heap.size,0,none⟩ 1 1 [.float .f64 p,.float .f64 q] hx rfl ?_ ?_ (by unfold maxLen;omega) (by omega) (by simp;omega) ?_
 · intro j u hj
   match j,hj with
   | 0,hj=>simp at hj;subst hj;simp [Addr.add]
   | 1,hj=>simp at hj;subst hj;simp [Addr.add]
 · intro u hu
   simp at hu
   rcases hu with rfl | rfl <;> rfl
 · intro v' w' h1 h2 _
   refine h v' w' ?_ ((hbel.alloc hB _).grown h2 (by simp;omega) ?_) (by have:=h2.size;simp at this;omega)
   · unfold OwnI
     have e:ivCells (xs++[(p,q)])=ivCells xs++[.float .f64 p,.float .f64 q]:=by simp [ivCells]
     rw [e,List.length_append]
     exact h1
   · intro k hk
     exact (World.ownsRow.lt hown k hk).1
theorem OwnI.keep {B:Nat} {w w2:World} {v:Value} {xs:List (Nat×Nat)} (h:OwnI B w v xs) (hb:Below w.heap.size w w2):OwnI B w2 v xs:=by
 refine⟨h.1, ?_⟩
 rcases h.2 with hn | ⟨g,cap,cur,hv,hb2,hg,rest⟩
 · exact .inl hn
 · have hlt:g<w.heap.size:=(Array.getElem?_eq_some_iff.1 hg).1
   refine .inr ⟨g,cap,cur,hv,hb2, ?_,rest⟩
   rw [←hg]
   exact hb.block g hlt
def Img (w:World) (g N:Nat) (xs:Nat→Nat×Nat):Prop :=
 g<w.heap.size∧∀i,i<N→w.cell? ⟨g,i*2,none⟩=some (.float .f64 (xs i).1)∧w.cell? ⟨g,i*2+1,none⟩=some (.float .f64 (xs i).2)∧w.frozen? ⟨g,i*2,none⟩=false∧w.frozen? ⟨g,i*2+1,none⟩=false
theorem Img.keep {w w2:World} {g N:Nat} {xs:Nat→Nat×Nat} (h:Img w g N xs) (hb:Below w.heap.size w w2):Img w2 g N xs :=
 ⟨Nat.lt_of_lt_of_le h.1 hb.size,fun i hi=>by obtain⟨a,b,c,d⟩:=h.2 i hi;exact⟨keepsC hb a h.1,keepsC hb b h.1,keepsF hb c h.1,keepsF hb d h.1⟩⟩
theorem Img.set {w:World} {g N:Nat} {xs:Nat→Nat×Nat} (h:Img w g N xs) (r p q:Nat) (hr:r<N):Img ((w.setCell ⟨g,r*2,none⟩ (.float .f64 p)).setCell ⟨g,r*2+1,none⟩ (.float .f64 q)) g N (fun i=>if i=r then (p,q) else xs i):=by
 refine⟨by simp only [World.size_setCell];exact h.1,fun i hi=>?_⟩
 obtain⟨a,b,c,d⟩:=h.2 i hi
 obtain⟨a',b',c',d'⟩:=h.2 r hr
 have ne3:r*2≠r*2+1:=by omega
 have ne4:r*2+1≠r*2:=by omega
 by_cases e:i=r
 · subst e
   simp only [if_true]
   exact⟨by go_simp,by go_simp,by go_simp,by go_simp⟩
 · simp only [e,if_false]
   have n1:i*2≠r*2:=by omega
   have n2:i*2≠r*2+1:=by omega
   have n3:i*2+1≠r*2:=by omega
   have n4:i*2+1≠r*2+1:=by omega
   have m1:r*2≠i*2:=by omega
   have m2:r*2+1≠i*2:=by omega
   have m3:r*2≠i*2+1:=by omega
   have m4:r*2+1≠i*2+1:=by omega
   refine⟨?_, ?_,by go_simp,by go_simp⟩
   · go_simp
   · go_simp
theorem Img.congr {w:World} {g N:Nat} {xs ys:Nat→Nat×Nat} (h:Img w g N xs) (e:∀i,i<N→xs i=ys i):Img w g N ys :=
 ⟨h.1,fun i hi=>by rw [←e i hi];exact h.2 i hi⟩
theorem Img.ivs {w:World} {g N:Nat} {xs:Nat→Nat×Nat} (h:Img w g N xs) (hx:∀i,i<N→(xs i).1<18446744073709551616∧(xs i).2<18446744073709551616):Ivs w (some ⟨g,0,none⟩) N xs:=fun i hi=>by
 obtain⟨a,b, -, -⟩:=h.2 i hi
 exact⟨g,0,rfl,h.1,by rw [Nat.zero_add];exact a,by rw [Nat.zero_add];exact b,hx i hi⟩
theorem wpList_makeI {w:World} {ops:Array Oper} {rest:List Oper} {o:Oper} {a:Act} {Q:Exit→Act→World→Prop} (hgd:o.guard=none) (l c:Operand)
   (ho:o.op=.makeSlice 26 l c) (n:Nat) (hl:a.eval l=.int .i64 (n:Int)) (hc:a.eval c=.int .i64 (n:Int)) (hn:n≤3000000)
   (h:∀w',Img w' w.heap.size n (fun _=>(0,0))→Below w.heap.size w w'→w.heap.size<w'.heap.size→wpList Tryz.prog ops Q rest (a.put o.dst (.slice (some ⟨w.heap.size,0,none⟩) n n)) w'):wpList Tryz.prog ops Q (o :: rest) a w:=by
 obtain⟨i0,hi,hz0,hz1,hz2⟩:=info_parts Tryz.infoIval
 refine wpList_make_full w hgd l c 26 ho w.heap.size 40 i0 (.agg #[.float .f64 0,.float .f64 0]) 2 Tryz.underlying26 hi hz0 hz1 .i64 .i64 _ _ n hl hc rfl rfl (by rw [hz2];omega) (by unfold maxLen;omega) (Nat.le_refl _) ?_
 intro w' h1 h2
 have hlt:=(World.ownsRow.lt h1 _ rfl).2
 refine h w' ⟨hlt,fun i hi=>?_⟩ ⟨h2.os,h2.tape,h2.output,h2.size,fun k hk=>h2.block k hk (by simp)⟩ hlt
 have hc:∀j,j<n*2→w'.cell? ⟨w.heap.size,j,none⟩=some (.float .f64 0):=fun j hj=>by
   have e1:(madeCells (Value.agg #[.float .f64 0,.float .f64 0]).cells (n*2)).toList=List.replicate (n*2) (Value.float .f64 0):=by
     refine List.eq_replicate_iff.2 ⟨by simp [madeCells],fun b hb=>?_⟩
     simp [madeCells,Value.cells] at hb
     obtain⟨x, -,hx⟩:=hb
     rw [←hx]
     have:x%2=0∨x%2=1:=by omega
     rcases this with e | e <;> simp [e]
   rw [World.ownsRow.cellAt h1 j hj,e1]
   simp [hj]
 exact⟨hc _ (by omega),hc _ (by omega),World.ownsRow.frozenAt h1 _,World.ownsRow.frozenAt h1 _⟩
theorem ownI_ivs {B:Nat} {w:World} {v:Value} {xs:List (Nat×Nat)} (h:OwnI B w v xs) (hx:∀p∈xs,p.1<18446744073709551616∧p.2<18446744073709551616):∃A C,v=.slice A xs.length C∧Ivs w A xs.length (fun i=>xs.getD i (0,0)):=by
 have h':w.ownsRow B 40 2 v xs.length (ivCells xs):=h
 rcases h'.2 with ⟨rfl,hn⟩ | ⟨g,cap,cur,rfl, -⟩
 · rw [hn]
   exact⟨none,0,rfl,fun i hi=>by omega⟩
 · refine⟨_,cap,rfl,fun i hi=>?_⟩
   have hl:=(World.ownsRow.lt h g rfl).2
   have hg:xs[i]?=some (xs.getD i (0,0)):=by simp [List.getD,hi]
   obtain⟨a,b⟩:=ivCells_at xs i _ hg
   refine⟨g,0,rfl,hl, ?_, ?_,hx _ ?_⟩
   · rw [Nat.zero_add,World.ownsRow.cellAt h (i*2) (by omega)];exact a
   · rw [Nat.zero_add,World.ownsRow.cellAt h (i*2+1) (by omega)];exact b
   · show xs.getD i (0,0)∈xs
     have:=List.getElem?_eq_some_iff.1 hg
     obtain⟨h1,h2⟩:=this
     rw [←h2]
     exact List.getElem_mem h1
structure HasT (w:World) (b:Nat) (v:Int) (A:Option Addr) (n C:Nat) (D:Option Addr) (m E:Nat):Prop where
 c0:w.cell? ⟨b,0,none⟩=some (.int .i64 v)
 c1:w.cell? ⟨b,1,none⟩=some (.slice A n C)
 c2:w.cell? ⟨b,2,none⟩=some (.slice D m E)
 lt:b<w.heap.size
theorem HasT.keep {w w2:World} {b:Nat} {v:Int} {A:Option Addr} {n C:Nat} {D:Option Addr} {m E:Nat} (h:HasT w b v A n C D m E) (hb:Below w.heap.size w w2):HasT w2 b v A n C D m E :=
 ⟨keepsC hb h.c0 h.lt,keepsC hb h.c1 h.lt,keepsC hb h.c2 h.lt,Nat.lt_of_lt_of_le h.lt hb.size⟩
theorem hasT_new (w:World) (v:Int) (A:Option Addr) (n C:Nat) (D:Option Addr) (m E:Nat):HasT (w.alloc (.cells #[.int .i64 v,.slice A n C,.slice D m E] 25)) w.heap.size v A n C D m E :=
 ⟨by go_simp,by go_simp,by go_simp,by go_size⟩
set_option maxHeartbeats 1000000 in
theorem ref_len (v:Int) (A:Option Addr) (n C:Nat) (D:Option Addr) (m E:Nat) (AX:Option Addr) (mx CX:Nat) (hne:((mx:Int) != v)=true) (w:World) (c1:∀W,Below w.heap.size w W→Calls Tryz.prog 40 #[tapeV v A n C D m E] W fun e' w'=>e'=.returned (.int .i64 0)∧Below W.heap.size W w') :
   Calls Tryz.prog 29 #[tapeV v A n C D m E,.slice AX mx CX] w fun e w'=>e=.returned (.int .i64 1)∧Below w.heap.size w w':=by
 unfold tapeV at *
 have T:=hasT_new w v A n C D m E
 have HB:Below w.heap.size w (w.alloc (.cells #[.int .i64 v,.slice A n C,.slice D m E] 25)):=by go_grown
 go_enter Tryz.func29,Tryz.ntmps29
 go_upto_region 1 with fail
 generalize (w.alloc (.cells #[.int .i64 v,.slice A n C,.slice D m E] 25))=V1 at *
 obtain⟨t0,t1,t2,tl⟩:=id T
 go_wp2_with (go_at_call 40;refine (c1 _ HB).mono ?_;rintro _ VV ⟨rfl,hb1⟩;replace HB:=later HB hb1;replace T:=T.keep hb1;clear t0 t1 t2 tl;obtain⟨t0,t1,t2,tl⟩:=id T)
 go_ret
 exact⟨rfl,HB⟩
def allB (m:Nat) (X:Nat→Nat×Nat):Bool:=(List.range m).all fun i=>hsB (X i).1 (X i).2
set_option maxHeartbeats 1000000 in
theorem ref_all (v:Int) (A:Option Addr) (n C:Nat) (D:Option Addr) (m E:Nat) (AX:Option Addr) (mx CX:Nat) (X:Nat→Nat×Nat) (hm:mx≤9223372036854775807) (hne:((mx:Int) != v)=false) (w:World) (VX:Ivs w AX mx X) (c1:∀W,Below w.heap.size w W→Calls Tryz.prog 40 #[tapeV v A n C D m E] W fun e' w'=>e'=.returned (.int .i64 0)∧Below W.heap.size W w') :
   Calls Tryz.prog 29 #[tapeV v A n C D m E,.slice AX mx CX] w fun e w'=>e=.returned (.int .i64 (if allB mx X then 0 else 1))∧Below w.heap.size w w':=by
 have cr:=fun (i:Nat) (h1:(X i).1<18446744073709551616) (h2:(X i).2<18446744073709551616) w=>mayHold_w (X i).1 (X i).2 h1 h2 w
 unfold tapeV at *
 have T:=hasT_new w v A n C D m E
 have HB:Below w.heap.size w (w.alloc (.cells #[.int .i64 v,.slice A n C,.slice D m E] 25)):=by go_grown
 go_enter Tryz.func29,Tryz.ntmps29
 go_upto_region 1 with fail
 generalize (w.alloc (.cells #[.int .i64 v,.slice A n C,.slice D m E] 25))=V1 at *
 obtain⟨t0,t1,t2,tl⟩:=id T
 go_wp2_with (go_at_call 40;refine (c1 _ HB).mono ?_;rintro _ VV ⟨rfl,hb1⟩;replace HB:=later HB hb1;replace T:=T.keep hb1;clear t0 t1 t2 tl;obtain⟨t0,t1,t2,tl⟩:=id T)
 clear t0 t1 t2 tl T c1
 go_loopg [20] mx (fun G s20 wx=>Below w.heap.size w wx∧∃i:Nat,i+G=mx∧s20=.int .i64 (i:Int)∧Hid (∀j,j<i→hsB (X j).1 (X j).2=true))
 case atStart=>exact⟨HB,0,by omega,rfl,fun j hj=>absurd hj (by omega)⟩
 case round =>
   clear HB
   obtain⟨HB,i,hi,rfl,hall⟩:=hrel
   by_cases ci:i=mx
   · subst ci
     have e:allB i X=true:=by unfold allB;exact all_upto.2 hall
     go_wp2_with fail
     go_ret
     exact⟨rfl,HB⟩
   · have hlt:(i:Int)<(mx:Int):=by omega
     obtain⟨b,o,hA,hb,x0,x1,l0,l1⟩:=(VX.keep HB) i (by omega)
     have c:=cr i l0 l1
     have hcase:hsB (X i).1 (X i).2=true∨hsB (X i).1 (X i).2=false:=by cases hsB (X i).1 (X i).2 <;> simp
     rcases hcase with hq | hq
     · rw [hq] at c
       subst hA
       go_wp2_with (go_at_call 50;refine (c _).mono ?_;rintro _ w1 ⟨rfl,hb1⟩;replace HB:=later (below_alloc HB _) hb1)
       go_roundg (mx-i-1)
       case measure=>omega
       case rel=>exact⟨HB,i+1,by omega,by go_num,fun j hj=>by rcases Nat.lt_or_ge j i with h | h;exact hall j h;rw [show j=i by omega];exact hq⟩
     · rw [hq] at c
       have e:allB mx X=false:=by
         unfold allB
         exact all_not (i:=i) (by omega) hq
       subst hA
       go_wp2_with (go_at_call 50;refine (c _).mono ?_;rintro _ w1 ⟨rfl,hb1⟩;replace HB:=later (below_alloc HB _) hb1)
       all_goals
         go_ret
         exact⟨rfl,HB⟩
set_option maxHeartbeats 2000000 in
theorem outs_i (v:Int) (A:Option Addr) (n C:Nat) (D:Option Addr) (m E:Nat) (Y:Nat→Int) (B:Option Addr) (k F:Nat) (V:Nat→Nat×Nat) (hm:m≤400) (hY:∀i,i<m→0≤Y i∧Y i<(k:Int)) (w:World) (U:Ivs w B k V) (VY:Ins w D m Y) :
   Calls Tryz.prog 31 #[tapeV v A n C D m E,.slice B k F] w fun e w'=>∃g,e=.returned (.slice (some ⟨g,0,none⟩) m m)∧Img w' g m (fun i=>V (Y i).toNat)∧Below w.heap.size w w':=by
 have HY:Hid (∀i,i<m→0≤Y i∧Y i<(k:Int)):=hY
 clear hY
 unfold tapeV at *
 have T:=hasT_new w v A n C D m E
 have HB:Below w.heap.size w (w.alloc (.cells #[.int .i64 v,.slice A n C,.slice D m E] 25)):=by go_grown
 go_enter Tryz.func31,Tryz.ntmps31
 go_upto_region 1 with fail
 generalize (w.alloc (.cells #[.int .i64 v,.slice A n C,.slice D m E] 25))=V1 at *
 obtain⟨t0,t1,t2,tl⟩:=id T
 go_wp2_with (at_make;refine wpList_makeI (by rfl) _ _ (by rfl) m (by rfl) (by rfl) (by omega) ?_;intro w3 hI hb3 hS3;replace T:=T.keep hb3;clear t0 t1 t2 tl;obtain⟨t0,t1,t2,tl⟩:=id T)
 clear t0 t1 t2 tl T
 have hg:w.heap.size≤V1.heap.size:=HB.size
 replace HB:=later HB hb3
 clear hb3
 generalize V1.heap.size=g at *
 go_loopg [15] m (fun G s15 wx=>Below w.heap.size w wx∧∃r:Nat,r+G=m∧s15=.int .i64 (r:Int)∧Img wx g m (fun i=>if i<r then V (Y i).toNat else (0,0)))
 case atStart=>exact⟨HB,0,by omega,rfl,hI.congr fun i _=>by simp⟩
 case round =>
   clear HB hI
   obtain⟨HB,r,hr,rfl,hI⟩:=hrel
   by_cases cr:r=m
   · subst cr
     go_wp2_with fail
     go_ret
     exact⟨g,rfl,hI.congr fun i hi=>by simp [hi],HB⟩
   · have hlt:(r:Int)<(m:Int):=by omega
     obtain⟨b',o',hA,hb',y0⟩:=(VY.keep HB) r (by omega)
     obtain⟨j,hj⟩:∃j:Nat,Y r=(j:Int):=⟨(Y r).toNat,by have:=HY r (by omega);omega⟩
     have hjk:(j:Int)<(k:Int):=by have:=HY r (by omega);omega
     obtain⟨xb,xo,hB,hxb,x0,x1, -⟩:=(U.keep HB) j (by omega)
     have ej:V (Y r).toNat=V j:=by rw [hj];rfl
     rw [hj] at y0
     obtain⟨i0,i1,f0,f1⟩:=id (hI.2 r (by omega))
     subst hA
     subst hB
     go_wp2_with fail
     go_roundg (m-r-1)
     case measure=>omega
     case rel =>
       refine⟨?_,r+1,by omega,by go_num,(hI.set r _ _ (by omega)).congr fun i hi=>?_⟩
       · repeat' (first | (with_reducible exact HB) | (with_reducible refine Below.setCell ?_ ?_ _) | go_size | omega)
       · by_cases e:i=r
         · subst e
           simp [ej]
         · simp only [e,if_false]
           by_cases q:i<r
           · simp [q,show i<r+1 by omega]
           · simp [q,show ¬i<r+1 by omega]
end Go.Proofs.YtnnfafilgiajoaaGreat
