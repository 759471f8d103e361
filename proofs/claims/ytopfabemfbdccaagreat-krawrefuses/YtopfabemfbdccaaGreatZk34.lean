/- An operation's value, the program's way: valueOf and isOutside, kind by kind; isBounded. -/
import Derived.Test.YtopfabemfbdccaaGreatZk33
import Derived.Test.YtopfabemfbdccaaGreatZk21
namespace Go.Proofs.YtopfabemfbdccaaGreat
open Go.ChangeShapes Go.WideShapes Go.ChangeAt Go.RowKit
structure HasO (w:World) (b:Nat) (k oa ob n:Int) (l:Nat×Nat):Prop where
 c0:w.cell? ⟨b,0,none⟩=some (.int .i64 k)
 c1:w.cell? ⟨b,1,none⟩=some (.int .i64 oa)
 c2:w.cell? ⟨b,2,none⟩=some (.int .i64 ob)
 c3:w.cell? ⟨b,3,none⟩=some (.int .i64 n)
 c4:w.cell? ⟨b,4,none⟩=some (.float .f64 l.1)
 c5:w.cell? ⟨b,5,none⟩=some (.float .f64 l.2)
 lt:b<w.heap.size
theorem HasO.keep {w w2:World} {b:Nat} {k oa ob n:Int} {l:Nat×Nat} (h:HasO w b k oa ob n l) (hb:Below w.heap.size w w2):HasO w2 b k oa ob n l :=
 ⟨keepsC hb h.c0 h.lt,keepsC hb h.c1 h.lt,keepsC hb h.c2 h.lt,keepsC hb h.c3 h.lt,keepsC hb h.c4 h.lt,keepsC hb h.c5 h.lt,Nat.lt_of_lt_of_le h.lt hb.size⟩
theorem hasO_new (w:World) (k oa ob n:Int) (l:Nat×Nat):HasO (w.alloc (.cells #[.int .i64 k,.int .i64 oa,.int .i64 ob,.int .i64 n,.float .f64 l.1,.float .f64 l.2] 77)) w.heap.size k oa ob n l :=
 ⟨by go_simp,by go_simp,by go_simp,by go_simp,by go_simp,by go_simp,by go_size⟩
theorem HasO.alloc {w:World} {b:Nat} {k oa ob n:Int} {l:Nat×Nat} (h:HasO w b k oa ob n l) (o:Obj):HasO (w.alloc o) b k oa ob n l:=h.keep (below_alloc (Below.refl _ _) o)
theorem enterO (w:World) (k oa ob n:Int) (l a b:Nat×Nat) :
  HasO ((((w.alloc (.cells #[.int .i64 k,.int .i64 oa,.int .i64 ob,.int .i64 n,.float .f64 l.1,.float .f64 l.2] 77)).alloc (.cells #[.float .f64 a.1,.float .f64 a.2] 24)).alloc (.cells #[.float .f64 b.1,.float .f64 b.2] 24)).alloc (.cells #[.float .f64 0,.float .f64 0] 24)) w.heap.size k oa ob n l /\
  Has2 ((((w.alloc (.cells #[.int .i64 k,.int .i64 oa,.int .i64 ob,.int .i64 n,.float .f64 l.1,.float .f64 l.2] 77)).alloc (.cells #[.float .f64 a.1,.float .f64 a.2] 24)).alloc (.cells #[.float .f64 b.1,.float .f64 b.2] 24)).alloc (.cells #[.float .f64 0,.float .f64 0] 24)) (w.heap.size+1) (.float .f64 a.1) (.float .f64 a.2) /\
  Has2 ((((w.alloc (.cells #[.int .i64 k,.int .i64 oa,.int .i64 ob,.int .i64 n,.float .f64 l.1,.float .f64 l.2] 77)).alloc (.cells #[.float .f64 a.1,.float .f64 a.2] 24)).alloc (.cells #[.float .f64 b.1,.float .f64 b.2] 24)).alloc (.cells #[.float .f64 0,.float .f64 0] 24)) (w.heap.size+1+1) (.float .f64 b.1) (.float .f64 b.2) /\
  Has2 ((((w.alloc (.cells #[.int .i64 k,.int .i64 oa,.int .i64 ob,.int .i64 n,.float .f64 l.1,.float .f64 l.2] 77)).alloc (.cells #[.float .f64 a.1,.float .f64 a.2] 24)).alloc (.cells #[.float .f64 b.1,.float .f64 b.2] 24)).alloc (.cells #[.float .f64 0,.float .f64 0] 24)) (w.heap.size+1+1+1) (.float .f64 0) (.float .f64 0) /\
  Below w.heap.size w ((((w.alloc (.cells #[.int .i64 k,.int .i64 oa,.int .i64 ob,.int .i64 n,.float .f64 l.1,.float .f64 l.2] 77)).alloc (.cells #[.float .f64 a.1,.float .f64 a.2] 24)).alloc (.cells #[.float .f64 b.1,.float .f64 b.2] 24)).alloc (.cells #[.float .f64 0,.float .f64 0] 24)):=by
 refine⟨(((hasO_new w k oa ob n l).alloc _).alloc _).alloc _,⟨by go_simp,by go_simp,by go_simp,by go_simp,by go_size⟩,⟨by go_simp,by go_simp,by go_simp,by go_simp,by go_size⟩,⟨by go_simp,by go_simp,by go_simp,by go_simp,by go_size⟩,by go_grown⟩
set_option maxHeartbeats 1000000 in
theorem vo_1 (oa ob n:Int) (l a b:Nat×Nat) (xs:Value) (w:World):Calls Tryz.prog 134 #[.agg #[.int .i64 1,.int .i64 oa,.int .i64 ob,.int .i64 n,.float .f64 l.1,.float .f64 l.2],.agg #[.float .f64 a.1,.float .f64 a.2],.agg #[.float .f64 b.1,.float .f64 b.2],xs] w fun e w'=>e=.returned (.agg #[.float .f64 l.1,.float .f64 l.2])/\Below w.heap.size w w':=by
 obtain⟨O,X,Y,R,HB⟩:=enterO w 1 oa ob n l a b
 go_enter Tryz.func134,Tryz.ntmps134
 go_upto_region 1 with fail
 generalize ((((w.alloc (.cells #[.int .i64 1,.int .i64 oa,.int .i64 ob,.int .i64 n,.float .f64 l.1,.float .f64 l.2] 77)).alloc (.cells #[.float .f64 a.1,.float .f64 a.2] 24)).alloc (.cells #[.float .f64 b.1,.float .f64 b.2] 24)).alloc (.cells #[.float .f64 0,.float .f64 0] 24))=V1 at *
 obtain⟨o0,o1,o2,o3,o4,o5,ol⟩:=id O
 obtain⟨p0,p1,p2,p3,p4⟩:=id X
 obtain⟨q0,q1,q2,q3,q4⟩:=id Y
 obtain⟨k0,k1,k2,k3,k4⟩:=id R
 go_wp2_with fail
 refine bodyPost_ret (v:=.agg #[.float .f64 l.1,.float .f64 l.2]) (by simp [results,Tryz.results134,go_sem, *]) rfl ⟨rfl, ?_⟩;repeat' (first | (with_reducible exact HB) | (with_reducible refine Below.setCell ?_ ?_ _) | go_size)
set_option maxHeartbeats 1000000 in
theorem vo_2 (oa ob:Int) (i m C xb xo:Nat) (l a b s:Nat×Nat) (hi:i<m) (w:World) (hb:xb<w.heap.size) (x0:w.cell? ⟨xb,xo+i*2,none⟩=some (.float .f64 s.1)) (x1:w.cell? ⟨xb,xo+i*2+1,none⟩=some (.float .f64 s.2)):Calls Tryz.prog 134 #[.agg #[.int .i64 2,.int .i64 oa,.int .i64 ob,.int .i64 (i:Int),.float .f64 l.1,.float .f64 l.2],.agg #[.float .f64 a.1,.float .f64 a.2],.agg #[.float .f64 b.1,.float .f64 b.2],.slice (some ⟨xb,xo,none⟩) m C] w fun e w'=>e=.returned (.agg #[.float .f64 s.1,.float .f64 s.2])/\Below w.heap.size w w':=by
 obtain⟨O,X,Y,R,HB⟩:=enterO w 2 oa ob (i:Int) l a b
 go_enter Tryz.func134,Tryz.ntmps134
 go_upto_region 1 with fail
 replace x0:=keepsC HB x0 hb
 replace x1:=keepsC HB x1 hb
 replace hb:=Nat.lt_of_lt_of_le hb HB.size
 generalize ((((w.alloc (.cells #[.int .i64 2,.int .i64 oa,.int .i64 ob,.int .i64 (i:Int),.float .f64 l.1,.float .f64 l.2] 77)).alloc (.cells #[.float .f64 a.1,.float .f64 a.2] 24)).alloc (.cells #[.float .f64 b.1,.float .f64 b.2] 24)).alloc (.cells #[.float .f64 0,.float .f64 0] 24))=V1 at *
 obtain⟨o0,o1,o2,o3,o4,o5,ol⟩:=id O
 obtain⟨p0,p1,p2,p3,p4⟩:=id X
 obtain⟨q0,q1,q2,q3,q4⟩:=id Y
 obtain⟨k0,k1,k2,k3,k4⟩:=id R
 go_wp2_with fail
 refine bodyPost_ret (v:=.agg #[.float .f64 s.1,.float .f64 s.2]) (by simp [results,Tryz.results134,go_sem, *]) rfl ⟨rfl, ?_⟩;repeat' (first | (with_reducible exact HB) | (with_reducible refine Below.setCell ?_ ?_ _) | go_size)
set_option maxHeartbeats 1000000 in
theorem vo_3 (oa ob n:Int) (l a b s:Nat×Nat) (xs:Value) (c1:∀w,Calls Tryz.prog 61 #[.agg #[.float .f64 a.1,.float .f64 a.2],.agg #[.float .f64 b.1,.float .f64 b.2]] w fun e w'=>e=.returned (.agg #[.float .f64 s.1,.float .f64 s.2])/\Below w.heap.size w w') (w:World):Calls Tryz.prog 134 #[.agg #[.int .i64 3,.int .i64 oa,.int .i64 ob,.int .i64 n,.float .f64 l.1,.float .f64 l.2],.agg #[.float .f64 a.1,.float .f64 a.2],.agg #[.float .f64 b.1,.float .f64 b.2],xs] w fun e w'=>e=.returned (.agg #[.float .f64 s.1,.float .f64 s.2])/\Below w.heap.size w w':=by
 obtain⟨O,X,Y,R,HB⟩:=enterO w 3 oa ob n l a b
 go_enter Tryz.func134,Tryz.ntmps134
 go_upto_region 1 with fail
 generalize ((((w.alloc (.cells #[.int .i64 3,.int .i64 oa,.int .i64 ob,.int .i64 n,.float .f64 l.1,.float .f64 l.2] 77)).alloc (.cells #[.float .f64 a.1,.float .f64 a.2] 24)).alloc (.cells #[.float .f64 b.1,.float .f64 b.2] 24)).alloc (.cells #[.float .f64 0,.float .f64 0] 24))=V1 at *
 obtain⟨o0,o1,o2,o3,o4,o5,ol⟩:=id O
 obtain⟨p0,p1,p2,p3,p4⟩:=id X
 obtain⟨q0,q1,q2,q3,q4⟩:=id Y
 go_wp2_with (go_at_call 61;refine (c1 _).mono ?_;rintro _ V3 ⟨rfl,hb1⟩;replace R:=R.keep hb1;replace HB:=later HB hb1;clear hb1;obtain⟨k0,k1,k2,k3,k4⟩:=id R)
 refine bodyPost_ret (v:=.agg #[.float .f64 s.1,.float .f64 s.2]) (by simp [results,Tryz.results134,go_sem, *]) rfl ⟨rfl, ?_⟩;repeat' (first | (with_reducible exact HB) | (with_reducible refine Below.setCell ?_ ?_ _) | go_size)
set_option maxHeartbeats 1000000 in
theorem vo_4 (oa ob n:Int) (l a b s:Nat×Nat) (xs:Value) (c1:∀w,Calls Tryz.prog 56 #[.agg #[.float .f64 a.1,.float .f64 a.2],.agg #[.float .f64 b.1,.float .f64 b.2]] w fun e w'=>e=.returned (.agg #[.float .f64 s.1,.float .f64 s.2])/\Below w.heap.size w w') (w:World):Calls Tryz.prog 134 #[.agg #[.int .i64 4,.int .i64 oa,.int .i64 ob,.int .i64 n,.float .f64 l.1,.float .f64 l.2],.agg #[.float .f64 a.1,.float .f64 a.2],.agg #[.float .f64 b.1,.float .f64 b.2],xs] w fun e w'=>e=.returned (.agg #[.float .f64 s.1,.float .f64 s.2])/\Below w.heap.size w w':=by
 obtain⟨O,X,Y,R,HB⟩:=enterO w 4 oa ob n l a b
 go_enter Tryz.func134,Tryz.ntmps134
 go_upto_region 1 with fail
 generalize ((((w.alloc (.cells #[.int .i64 4,.int .i64 oa,.int .i64 ob,.int .i64 n,.float .f64 l.1,.float .f64 l.2] 77)).alloc (.cells #[.float .f64 a.1,.float .f64 a.2] 24)).alloc (.cells #[.float .f64 b.1,.float .f64 b.2] 24)).alloc (.cells #[.float .f64 0,.float .f64 0] 24))=V1 at *
 obtain⟨o0,o1,o2,o3,o4,o5,ol⟩:=id O
 obtain⟨p0,p1,p2,p3,p4⟩:=id X
 obtain⟨q0,q1,q2,q3,q4⟩:=id Y
 go_wp2_with (go_at_call 56;refine (c1 _).mono ?_;rintro _ V3 ⟨rfl,hb1⟩;replace R:=R.keep hb1;replace HB:=later HB hb1;clear hb1;obtain⟨k0,k1,k2,k3,k4⟩:=id R)
 refine bodyPost_ret (v:=.agg #[.float .f64 s.1,.float .f64 s.2]) (by simp [results,Tryz.results134,go_sem, *]) rfl ⟨rfl, ?_⟩;repeat' (first | (with_reducible exact HB) | (with_reducible refine Below.setCell ?_ ?_ _) | go_size)
set_option maxHeartbeats 1000000 in
theorem vo_5 (oa ob n:Int) (l a b s:Nat×Nat) (xs:Value) (c1:∀w,Calls Tryz.prog 54 #[.agg #[.float .f64 a.1,.float .f64 a.2],.agg #[.float .f64 b.1,.float .f64 b.2]] w fun e w'=>e=.returned (.agg #[.float .f64 s.1,.float .f64 s.2])/\Below w.heap.size w w') (w:World):Calls Tryz.prog 134 #[.agg #[.int .i64 5,.int .i64 oa,.int .i64 ob,.int .i64 n,.float .f64 l.1,.float .f64 l.2],.agg #[.float .f64 a.1,.float .f64 a.2],.agg #[.float .f64 b.1,.float .f64 b.2],xs] w fun e w'=>e=.returned (.agg #[.float .f64 s.1,.float .f64 s.2])/\Below w.heap.size w w':=by
 obtain⟨O,X,Y,R,HB⟩:=enterO w 5 oa ob n l a b
 go_enter Tryz.func134,Tryz.ntmps134
 go_upto_region 1 with fail
 generalize ((((w.alloc (.cells #[.int .i64 5,.int .i64 oa,.int .i64 ob,.int .i64 n,.float .f64 l.1,.float .f64 l.2] 77)).alloc (.cells #[.float .f64 a.1,.float .f64 a.2] 24)).alloc (.cells #[.float .f64 b.1,.float .f64 b.2] 24)).alloc (.cells #[.float .f64 0,.float .f64 0] 24))=V1 at *
 obtain⟨o0,o1,o2,o3,o4,o5,ol⟩:=id O
 obtain⟨p0,p1,p2,p3,p4⟩:=id X
 obtain⟨q0,q1,q2,q3,q4⟩:=id Y
 go_wp2_with (go_at_call 54;refine (c1 _).mono ?_;rintro _ V3 ⟨rfl,hb1⟩;replace R:=R.keep hb1;replace HB:=later HB hb1;clear hb1;obtain⟨k0,k1,k2,k3,k4⟩:=id R)
 refine bodyPost_ret (v:=.agg #[.float .f64 s.1,.float .f64 s.2]) (by simp [results,Tryz.results134,go_sem, *]) rfl ⟨rfl, ?_⟩;repeat' (first | (with_reducible exact HB) | (with_reducible refine Below.setCell ?_ ?_ _) | go_size)
set_option maxHeartbeats 1000000 in
theorem vo_6 (oa ob n:Int) (l a b s:Nat×Nat) (xs:Value) (c1:∀w,Calls Tryz.prog 50 #[.agg #[.float .f64 a.1,.float .f64 a.2],.agg #[.float .f64 b.1,.float .f64 b.2]] w fun e w'=>e=.returned (.agg #[.float .f64 s.1,.float .f64 s.2])/\Below w.heap.size w w') (w:World):Calls Tryz.prog 134 #[.agg #[.int .i64 6,.int .i64 oa,.int .i64 ob,.int .i64 n,.float .f64 l.1,.float .f64 l.2],.agg #[.float .f64 a.1,.float .f64 a.2],.agg #[.float .f64 b.1,.float .f64 b.2],xs] w fun e w'=>e=.returned (.agg #[.float .f64 s.1,.float .f64 s.2])/\Below w.heap.size w w':=by
 obtain⟨O,X,Y,R,HB⟩:=enterO w 6 oa ob n l a b
 go_enter Tryz.func134,Tryz.ntmps134
 go_upto_region 1 with fail
 generalize ((((w.alloc (.cells #[.int .i64 6,.int .i64 oa,.int .i64 ob,.int .i64 n,.float .f64 l.1,.float .f64 l.2] 77)).alloc (.cells #[.float .f64 a.1,.float .f64 a.2] 24)).alloc (.cells #[.float .f64 b.1,.float .f64 b.2] 24)).alloc (.cells #[.float .f64 0,.float .f64 0] 24))=V1 at *
 obtain⟨o0,o1,o2,o3,o4,o5,ol⟩:=id O
 obtain⟨p0,p1,p2,p3,p4⟩:=id X
 obtain⟨q0,q1,q2,q3,q4⟩:=id Y
 go_wp2_with (go_at_call 50;refine (c1 _).mono ?_;rintro _ V3 ⟨rfl,hb1⟩;replace R:=R.keep hb1;replace HB:=later HB hb1;clear hb1;obtain⟨k0,k1,k2,k3,k4⟩:=id R)
 refine bodyPost_ret (v:=.agg #[.float .f64 s.1,.float .f64 s.2]) (by simp [results,Tryz.results134,go_sem, *]) rfl ⟨rfl, ?_⟩;repeat' (first | (with_reducible exact HB) | (with_reducible refine Below.setCell ?_ ?_ _) | go_size)
set_option maxHeartbeats 1000000 in
theorem vo_7 (oa ob n:Int) (l a b s:Nat×Nat) (xs:Value) (c1:∀w,Calls Tryz.prog 57 #[.agg #[.float .f64 a.1,.float .f64 a.2]] w fun e w'=>e=.returned (.agg #[.float .f64 s.1,.float .f64 s.2])/\Below w.heap.size w w') (w:World):Calls Tryz.prog 134 #[.agg #[.int .i64 7,.int .i64 oa,.int .i64 ob,.int .i64 n,.float .f64 l.1,.float .f64 l.2],.agg #[.float .f64 a.1,.float .f64 a.2],.agg #[.float .f64 b.1,.float .f64 b.2],xs] w fun e w'=>e=.returned (.agg #[.float .f64 s.1,.float .f64 s.2])/\Below w.heap.size w w':=by
 obtain⟨O,X,Y,R,HB⟩:=enterO w 7 oa ob n l a b
 go_enter Tryz.func134,Tryz.ntmps134
 go_upto_region 1 with fail
 generalize ((((w.alloc (.cells #[.int .i64 7,.int .i64 oa,.int .i64 ob,.int .i64 n,.float .f64 l.1,.float .f64 l.2] 77)).alloc (.cells #[.float .f64 a.1,.float .f64 a.2] 24)).alloc (.cells #[.float .f64 b.1,.float .f64 b.2] 24)).alloc (.cells #[.float .f64 0,.float .f64 0] 24))=V1 at *
 obtain⟨o0,o1,o2,o3,o4,o5,ol⟩:=id O
 obtain⟨p0,p1,p2,p3,p4⟩:=id X
 obtain⟨q0,q1,q2,q3,q4⟩:=id Y
 go_wp2_with (go_at_call 57;refine (c1 _).mono ?_;rintro _ V3 ⟨rfl,hb1⟩;replace R:=R.keep hb1;replace HB:=later HB hb1;clear hb1;obtain⟨k0,k1,k2,k3,k4⟩:=id R)
 refine bodyPost_ret (v:=.agg #[.float .f64 s.1,.float .f64 s.2]) (by simp [results,Tryz.results134,go_sem, *]) rfl ⟨rfl, ?_⟩;repeat' (first | (with_reducible exact HB) | (with_reducible refine Below.setCell ?_ ?_ _) | go_size)
set_option maxHeartbeats 1000000 in
theorem vo_8 (oa ob n:Int) (l a b s:Nat×Nat) (xs:Value) (c1:∀w,Calls Tryz.prog 189 #[.agg #[.float .f64 a.1,.float .f64 a.2],.int .i64 n] w fun e w'=>e=.returned (.agg #[.float .f64 s.1,.float .f64 s.2])/\Below w.heap.size w w') (w:World):Calls Tryz.prog 134 #[.agg #[.int .i64 8,.int .i64 oa,.int .i64 ob,.int .i64 n,.float .f64 l.1,.float .f64 l.2],.agg #[.float .f64 a.1,.float .f64 a.2],.agg #[.float .f64 b.1,.float .f64 b.2],xs] w fun e w'=>e=.returned (.agg #[.float .f64 s.1,.float .f64 s.2])/\Below w.heap.size w w':=by
 obtain⟨O,X,Y,R,HB⟩:=enterO w 8 oa ob n l a b
 go_enter Tryz.func134,Tryz.ntmps134
 go_upto_region 1 with fail
 generalize ((((w.alloc (.cells #[.int .i64 8,.int .i64 oa,.int .i64 ob,.int .i64 n,.float .f64 l.1,.float .f64 l.2] 77)).alloc (.cells #[.float .f64 a.1,.float .f64 a.2] 24)).alloc (.cells #[.float .f64 b.1,.float .f64 b.2] 24)).alloc (.cells #[.float .f64 0,.float .f64 0] 24))=V1 at *
 obtain⟨o0,o1,o2,o3,o4,o5,ol⟩:=id O
 obtain⟨p0,p1,p2,p3,p4⟩:=id X
 obtain⟨q0,q1,q2,q3,q4⟩:=id Y
 go_wp2_with (go_at_call 189;refine (c1 _).mono ?_;rintro _ V3 ⟨rfl,hb1⟩;replace R:=R.keep hb1;replace HB:=later HB hb1;clear hb1;obtain⟨k0,k1,k2,k3,k4⟩:=id R)
 refine bodyPost_ret (v:=.agg #[.float .f64 s.1,.float .f64 s.2]) (by simp [results,Tryz.results134,go_sem, *]) rfl ⟨rfl, ?_⟩;repeat' (first | (with_reducible exact HB) | (with_reducible refine Below.setCell ?_ ?_ _) | go_size)
set_option maxHeartbeats 1000000 in
theorem vo_9 (oa ob n:Int) (l a b s:Nat×Nat) (xs:Value) (c1:∀w,Calls Tryz.prog 190 #[.agg #[.float .f64 a.1,.float .f64 a.2]] w fun e w'=>e=.returned (.agg #[.float .f64 s.1,.float .f64 s.2])/\Below w.heap.size w w') (w:World):Calls Tryz.prog 134 #[.agg #[.int .i64 9,.int .i64 oa,.int .i64 ob,.int .i64 n,.float .f64 l.1,.float .f64 l.2],.agg #[.float .f64 a.1,.float .f64 a.2],.agg #[.float .f64 b.1,.float .f64 b.2],xs] w fun e w'=>e=.returned (.agg #[.float .f64 s.1,.float .f64 s.2])/\Below w.heap.size w w':=by
 obtain⟨O,X,Y,R,HB⟩:=enterO w 9 oa ob n l a b
 go_enter Tryz.func134,Tryz.ntmps134
 go_upto_region 1 with fail
 generalize ((((w.alloc (.cells #[.int .i64 9,.int .i64 oa,.int .i64 ob,.int .i64 n,.float .f64 l.1,.float .f64 l.2] 77)).alloc (.cells #[.float .f64 a.1,.float .f64 a.2] 24)).alloc (.cells #[.float .f64 b.1,.float .f64 b.2] 24)).alloc (.cells #[.float .f64 0,.float .f64 0] 24))=V1 at *
 obtain⟨o0,o1,o2,o3,o4,o5,ol⟩:=id O
 obtain⟨p0,p1,p2,p3,p4⟩:=id X
 obtain⟨q0,q1,q2,q3,q4⟩:=id Y
 go_wp2_with (go_at_call 190;refine (c1 _).mono ?_;rintro _ V3 ⟨rfl,hb1⟩;replace R:=R.keep hb1;replace HB:=later HB hb1;clear hb1;obtain⟨k0,k1,k2,k3,k4⟩:=id R)
 refine bodyPost_ret (v:=.agg #[.float .f64 s.1,.float .f64 s.2]) (by simp [results,Tryz.results134,go_sem, *]) rfl ⟨rfl, ?_⟩;repeat' (first | (with_reducible exact HB) | (with_reducible refine Below.setCell ?_ ?_ _) | go_size)
set_option maxHeartbeats 1000000 in
theorem vo_10 (oa ob n:Int) (l a b s:Nat×Nat) (xs:Value) (c1:∀w,Calls Tryz.prog 13 #[.agg #[.float .f64 a.1,.float .f64 a.2]] w fun e w'=>e=.returned (.agg #[.float .f64 s.1,.float .f64 s.2])/\Below w.heap.size w w') (w:World):Calls Tryz.prog 134 #[.agg #[.int .i64 10,.int .i64 oa,.int .i64 ob,.int .i64 n,.float .f64 l.1,.float .f64 l.2],.agg #[.float .f64 a.1,.float .f64 a.2],.agg #[.float .f64 b.1,.float .f64 b.2],xs] w fun e w'=>e=.returned (.agg #[.float .f64 s.1,.float .f64 s.2])/\Below w.heap.size w w':=by
 obtain⟨O,X,Y,R,HB⟩:=enterO w 10 oa ob n l a b
 go_enter Tryz.func134,Tryz.ntmps134
 go_upto_region 1 with fail
 generalize ((((w.alloc (.cells #[.int .i64 10,.int .i64 oa,.int .i64 ob,.int .i64 n,.float .f64 l.1,.float .f64 l.2] 77)).alloc (.cells #[.float .f64 a.1,.float .f64 a.2] 24)).alloc (.cells #[.float .f64 b.1,.float .f64 b.2] 24)).alloc (.cells #[.float .f64 0,.float .f64 0] 24))=V1 at *
 obtain⟨o0,o1,o2,o3,o4,o5,ol⟩:=id O
 obtain⟨p0,p1,p2,p3,p4⟩:=id X
 obtain⟨q0,q1,q2,q3,q4⟩:=id Y
 go_wp2_with (go_at_call 13;refine (c1 _).mono ?_;rintro _ V3 ⟨rfl,hb1⟩;replace R:=R.keep hb1;replace HB:=later HB hb1;clear hb1;obtain⟨k0,k1,k2,k3,k4⟩:=id R)
 refine bodyPost_ret (v:=.agg #[.float .f64 s.1,.float .f64 s.2]) (by simp [results,Tryz.results134,go_sem, *]) rfl ⟨rfl, ?_⟩;repeat' (first | (with_reducible exact HB) | (with_reducible refine Below.setCell ?_ ?_ _) | go_size)
set_option maxHeartbeats 1000000 in
theorem vo_11 (oa ob n:Int) (l a b s:Nat×Nat) (xs:Value) (c1:∀w,Calls Tryz.prog 191 #[.agg #[.float .f64 a.1,.float .f64 a.2]] w fun e w'=>e=.returned (.agg #[.float .f64 s.1,.float .f64 s.2])/\Below w.heap.size w w') (w:World):Calls Tryz.prog 134 #[.agg #[.int .i64 11,.int .i64 oa,.int .i64 ob,.int .i64 n,.float .f64 l.1,.float .f64 l.2],.agg #[.float .f64 a.1,.float .f64 a.2],.agg #[.float .f64 b.1,.float .f64 b.2],xs] w fun e w'=>e=.returned (.agg #[.float .f64 s.1,.float .f64 s.2])/\Below w.heap.size w w':=by
 obtain⟨O,X,Y,R,HB⟩:=enterO w 11 oa ob n l a b
 go_enter Tryz.func134,Tryz.ntmps134
 go_upto_region 1 with fail
 generalize ((((w.alloc (.cells #[.int .i64 11,.int .i64 oa,.int .i64 ob,.int .i64 n,.float .f64 l.1,.float .f64 l.2] 77)).alloc (.cells #[.float .f64 a.1,.float .f64 a.2] 24)).alloc (.cells #[.float .f64 b.1,.float .f64 b.2] 24)).alloc (.cells #[.float .f64 0,.float .f64 0] 24))=V1 at *
 obtain⟨o0,o1,o2,o3,o4,o5,ol⟩:=id O
 obtain⟨p0,p1,p2,p3,p4⟩:=id X
 obtain⟨q0,q1,q2,q3,q4⟩:=id Y
 go_wp2_with (go_at_call 191;refine (c1 _).mono ?_;rintro _ V3 ⟨rfl,hb1⟩;replace R:=R.keep hb1;replace HB:=later HB hb1;clear hb1;obtain⟨k0,k1,k2,k3,k4⟩:=id R)
 refine bodyPost_ret (v:=.agg #[.float .f64 s.1,.float .f64 s.2]) (by simp [results,Tryz.results134,go_sem, *]) rfl ⟨rfl, ?_⟩;repeat' (first | (with_reducible exact HB) | (with_reducible refine Below.setCell ?_ ?_ _) | go_size)
set_option maxHeartbeats 1000000 in
theorem vo_12 (oa ob n:Int) (l a b s:Nat×Nat) (xs:Value) (c1:∀w,Calls Tryz.prog 18 #[.agg #[.float .f64 a.1,.float .f64 a.2]] w fun e w'=>e=.returned (.agg #[.float .f64 s.1,.float .f64 s.2])/\Below w.heap.size w w') (w:World):Calls Tryz.prog 134 #[.agg #[.int .i64 12,.int .i64 oa,.int .i64 ob,.int .i64 n,.float .f64 l.1,.float .f64 l.2],.agg #[.float .f64 a.1,.float .f64 a.2],.agg #[.float .f64 b.1,.float .f64 b.2],xs] w fun e w'=>e=.returned (.agg #[.float .f64 s.1,.float .f64 s.2])/\Below w.heap.size w w':=by
 obtain⟨O,X,Y,R,HB⟩:=enterO w 12 oa ob n l a b
 go_enter Tryz.func134,Tryz.ntmps134
 go_upto_region 1 with fail
 generalize ((((w.alloc (.cells #[.int .i64 12,.int .i64 oa,.int .i64 ob,.int .i64 n,.float .f64 l.1,.float .f64 l.2] 77)).alloc (.cells #[.float .f64 a.1,.float .f64 a.2] 24)).alloc (.cells #[.float .f64 b.1,.float .f64 b.2] 24)).alloc (.cells #[.float .f64 0,.float .f64 0] 24))=V1 at *
 obtain⟨o0,o1,o2,o3,o4,o5,ol⟩:=id O
 obtain⟨p0,p1,p2,p3,p4⟩:=id X
 obtain⟨q0,q1,q2,q3,q4⟩:=id Y
 go_wp2_with (go_at_call 18;refine (c1 _).mono ?_;rintro _ V3 ⟨rfl,hb1⟩;replace R:=R.keep hb1;replace HB:=later HB hb1;clear hb1;obtain⟨k0,k1,k2,k3,k4⟩:=id R)
 refine bodyPost_ret (v:=.agg #[.float .f64 s.1,.float .f64 s.2]) (by simp [results,Tryz.results134,go_sem, *]) rfl ⟨rfl, ?_⟩;repeat' (first | (with_reducible exact HB) | (with_reducible refine Below.setCell ?_ ?_ _) | go_size)
set_option maxHeartbeats 1000000 in
theorem vo_13 (oa ob n:Int) (l a b s:Nat×Nat) (xs:Value) (c1:∀w,Calls Tryz.prog 19 #[.agg #[.float .f64 a.1,.float .f64 a.2]] w fun e w'=>e=.returned (.agg #[.float .f64 s.1,.float .f64 s.2])/\Below w.heap.size w w') (w:World):Calls Tryz.prog 134 #[.agg #[.int .i64 13,.int .i64 oa,.int .i64 ob,.int .i64 n,.float .f64 l.1,.float .f64 l.2],.agg #[.float .f64 a.1,.float .f64 a.2],.agg #[.float .f64 b.1,.float .f64 b.2],xs] w fun e w'=>e=.returned (.agg #[.float .f64 s.1,.float .f64 s.2])/\Below w.heap.size w w':=by
 obtain⟨O,X,Y,R,HB⟩:=enterO w 13 oa ob n l a b
 go_enter Tryz.func134,Tryz.ntmps134
 go_upto_region 1 with fail
 generalize ((((w.alloc (.cells #[.int .i64 13,.int .i64 oa,.int .i64 ob,.int .i64 n,.float .f64 l.1,.float .f64 l.2] 77)).alloc (.cells #[.float .f64 a.1,.float .f64 a.2] 24)).alloc (.cells #[.float .f64 b.1,.float .f64 b.2] 24)).alloc (.cells #[.float .f64 0,.float .f64 0] 24))=V1 at *
 obtain⟨o0,o1,o2,o3,o4,o5,ol⟩:=id O
 obtain⟨p0,p1,p2,p3,p4⟩:=id X
 obtain⟨q0,q1,q2,q3,q4⟩:=id Y
 go_wp2_with (go_at_call 19;refine (c1 _).mono ?_;rintro _ V3 ⟨rfl,hb1⟩;replace R:=R.keep hb1;replace HB:=later HB hb1;clear hb1;obtain⟨k0,k1,k2,k3,k4⟩:=id R)
 refine bodyPost_ret (v:=.agg #[.float .f64 s.1,.float .f64 s.2]) (by simp [results,Tryz.results134,go_sem, *]) rfl ⟨rfl, ?_⟩;repeat' (first | (with_reducible exact HB) | (with_reducible refine Below.setCell ?_ ?_ _) | go_size)
set_option maxHeartbeats 1000000 in
theorem vo_14 (oa ob n:Int) (l a b s:Nat×Nat) (xs:Value) (c1:∀w,Calls Tryz.prog 192 #[.agg #[.float .f64 a.1,.float .f64 a.2]] w fun e w'=>e=.returned (.agg #[.float .f64 s.1,.float .f64 s.2])/\Below w.heap.size w w') (w:World):Calls Tryz.prog 134 #[.agg #[.int .i64 14,.int .i64 oa,.int .i64 ob,.int .i64 n,.float .f64 l.1,.float .f64 l.2],.agg #[.float .f64 a.1,.float .f64 a.2],.agg #[.float .f64 b.1,.float .f64 b.2],xs] w fun e w'=>e=.returned (.agg #[.float .f64 s.1,.float .f64 s.2])/\Below w.heap.size w w':=by
 obtain⟨O,X,Y,R,HB⟩:=enterO w 14 oa ob n l a b
 go_enter Tryz.func134,Tryz.ntmps134
 go_upto_region 1 with fail
 generalize ((((w.alloc (.cells #[.int .i64 14,.int .i64 oa,.int .i64 ob,.int .i64 n,.float .f64 l.1,.float .f64 l.2] 77)).alloc (.cells #[.float .f64 a.1,.float .f64 a.2] 24)).alloc (.cells #[.float .f64 b.1,.float .f64 b.2] 24)).alloc (.cells #[.float .f64 0,.float .f64 0] 24))=V1 at *
 obtain⟨o0,o1,o2,o3,o4,o5,ol⟩:=id O
 obtain⟨p0,p1,p2,p3,p4⟩:=id X
 obtain⟨q0,q1,q2,q3,q4⟩:=id Y
 go_wp2_with (go_at_call 192;refine (c1 _).mono ?_;rintro _ V3 ⟨rfl,hb1⟩;replace R:=R.keep hb1;replace HB:=later HB hb1;clear hb1;obtain⟨k0,k1,k2,k3,k4⟩:=id R)
 refine bodyPost_ret (v:=.agg #[.float .f64 s.1,.float .f64 s.2]) (by simp [results,Tryz.results134,go_sem, *]) rfl ⟨rfl, ?_⟩;repeat' (first | (with_reducible exact HB) | (with_reducible refine Below.setCell ?_ ?_ _) | go_size)
theorem enterI (w:World) (k oa ob n:Int) (l a b:Nat×Nat) (V:World) (h:V=(((w.alloc (.cells #[.int .i64 k,.int .i64 oa,.int .i64 ob,.int .i64 n,.float .f64 l.1,.float .f64 l.2] 77)).alloc (.cells #[.float .f64 a.1,.float .f64 a.2] 24)).alloc (.cells #[.float .f64 b.1,.float .f64 b.2] 24))):HasO V w.heap.size k oa ob n l/\Has2 V (w.heap.size+1) (.float .f64 a.1) (.float .f64 a.2)/\Has2 V (w.heap.size+1+1) (.float .f64 b.1) (.float .f64 b.2)/\Below w.heap.size w V:=by
 subst h
 exact⟨((hasO_new w k oa ob n l).alloc _).alloc _,⟨by go_simp,by go_simp,by go_simp,by go_simp,by go_size⟩,⟨by go_simp,by go_simp,by go_simp,by go_simp,by go_size⟩,by go_grown⟩
set_option maxHeartbeats 1000000 in
theorem io_1 (oa ob n:Int) (l a b:Nat×Nat) (w:World):Calls Tryz.prog 133 #[.agg #[.int .i64 1,.int .i64 oa,.int .i64 ob,.int .i64 n,.float .f64 l.1,.float .f64 l.2],.agg #[.float .f64 a.1,.float .f64 a.2],.agg #[.float .f64 b.1,.float .f64 b.2]] w fun e w'=>e=.returned (.bool false)/\Below w.heap.size w w':=by
 obtain⟨O,X,Y,HB⟩:=enterI w 1 oa ob n l a b _ rfl
 go_enter Tryz.func133,Tryz.ntmps133
 go_upto_region 1 with fail
 generalize (((w.alloc (.cells #[.int .i64 1,.int .i64 oa,.int .i64 ob,.int .i64 n,.float .f64 l.1,.float .f64 l.2] 77)).alloc (.cells #[.float .f64 a.1,.float .f64 a.2] 24)).alloc (.cells #[.float .f64 b.1,.float .f64 b.2] 24))=V1 at *
 obtain⟨o0,o1,o2,o3,o4,o5,ol⟩:=id O
 obtain⟨p0,p1,p2,p3,p4⟩:=id X
 obtain⟨q0,q1,q2,q3,q4⟩:=id Y
 go_wp2_with fail
 go_ret
 exact⟨rfl,HB⟩
set_option maxHeartbeats 1000000 in
theorem io_2 (oa ob n:Int) (l a b:Nat×Nat) (w:World):Calls Tryz.prog 133 #[.agg #[.int .i64 2,.int .i64 oa,.int .i64 ob,.int .i64 n,.float .f64 l.1,.float .f64 l.2],.agg #[.float .f64 a.1,.float .f64 a.2],.agg #[.float .f64 b.1,.float .f64 b.2]] w fun e w'=>e=.returned (.bool false)/\Below w.heap.size w w':=by
 obtain⟨O,X,Y,HB⟩:=enterI w 2 oa ob n l a b _ rfl
 go_enter Tryz.func133,Tryz.ntmps133
 go_upto_region 1 with fail
 generalize (((w.alloc (.cells #[.int .i64 2,.int .i64 oa,.int .i64 ob,.int .i64 n,.float .f64 l.1,.float .f64 l.2] 77)).alloc (.cells #[.float .f64 a.1,.float .f64 a.2] 24)).alloc (.cells #[.float .f64 b.1,.float .f64 b.2] 24))=V1 at *
 obtain⟨o0,o1,o2,o3,o4,o5,ol⟩:=id O
 obtain⟨p0,p1,p2,p3,p4⟩:=id X
 obtain⟨q0,q1,q2,q3,q4⟩:=id Y
 go_wp2_with fail
 go_ret
 exact⟨rfl,HB⟩
set_option maxHeartbeats 1000000 in
theorem io_3 (oa ob n:Int) (l a b:Nat×Nat) (w:World):Calls Tryz.prog 133 #[.agg #[.int .i64 3,.int .i64 oa,.int .i64 ob,.int .i64 n,.float .f64 l.1,.float .f64 l.2],.agg #[.float .f64 a.1,.float .f64 a.2],.agg #[.float .f64 b.1,.float .f64 b.2]] w fun e w'=>e=.returned (.bool false)/\Below w.heap.size w w':=by
 obtain⟨O,X,Y,HB⟩:=enterI w 3 oa ob n l a b _ rfl
 go_enter Tryz.func133,Tryz.ntmps133
 go_upto_region 1 with fail
 generalize (((w.alloc (.cells #[.int .i64 3,.int .i64 oa,.int .i64 ob,.int .i64 n,.float .f64 l.1,.float .f64 l.2] 77)).alloc (.cells #[.float .f64 a.1,.float .f64 a.2] 24)).alloc (.cells #[.float .f64 b.1,.float .f64 b.2] 24))=V1 at *
 obtain⟨o0,o1,o2,o3,o4,o5,ol⟩:=id O
 obtain⟨p0,p1,p2,p3,p4⟩:=id X
 obtain⟨q0,q1,q2,q3,q4⟩:=id Y
 go_wp2_with fail
 go_ret
 exact⟨rfl,HB⟩
set_option maxHeartbeats 1000000 in
theorem io_4 (oa ob n:Int) (l a b:Nat×Nat) (w:World):Calls Tryz.prog 133 #[.agg #[.int .i64 4,.int .i64 oa,.int .i64 ob,.int .i64 n,.float .f64 l.1,.float .f64 l.2],.agg #[.float .f64 a.1,.float .f64 a.2],.agg #[.float .f64 b.1,.float .f64 b.2]] w fun e w'=>e=.returned (.bool false)/\Below w.heap.size w w':=by
 obtain⟨O,X,Y,HB⟩:=enterI w 4 oa ob n l a b _ rfl
 go_enter Tryz.func133,Tryz.ntmps133
 go_upto_region 1 with fail
 generalize (((w.alloc (.cells #[.int .i64 4,.int .i64 oa,.int .i64 ob,.int .i64 n,.float .f64 l.1,.float .f64 l.2] 77)).alloc (.cells #[.float .f64 a.1,.float .f64 a.2] 24)).alloc (.cells #[.float .f64 b.1,.float .f64 b.2] 24))=V1 at *
 obtain⟨o0,o1,o2,o3,o4,o5,ol⟩:=id O
 obtain⟨p0,p1,p2,p3,p4⟩:=id X
 obtain⟨q0,q1,q2,q3,q4⟩:=id Y
 go_wp2_with fail
 go_ret
 exact⟨rfl,HB⟩
set_option maxHeartbeats 1000000 in
theorem io_5 (oa ob n:Int) (l a b:Nat×Nat) (w:World):Calls Tryz.prog 133 #[.agg #[.int .i64 5,.int .i64 oa,.int .i64 ob,.int .i64 n,.float .f64 l.1,.float .f64 l.2],.agg #[.float .f64 a.1,.float .f64 a.2],.agg #[.float .f64 b.1,.float .f64 b.2]] w fun e w'=>e=.returned (.bool false)/\Below w.heap.size w w':=by
 obtain⟨O,X,Y,HB⟩:=enterI w 5 oa ob n l a b _ rfl
 go_enter Tryz.func133,Tryz.ntmps133
 go_upto_region 1 with fail
 generalize (((w.alloc (.cells #[.int .i64 5,.int .i64 oa,.int .i64 ob,.int .i64 n,.float .f64 l.1,.float .f64 l.2] 77)).alloc (.cells #[.float .f64 a.1,.float .f64 a.2] 24)).alloc (.cells #[.float .f64 b.1,.float .f64 b.2] 24))=V1 at *
 obtain⟨o0,o1,o2,o3,o4,o5,ol⟩:=id O
 obtain⟨p0,p1,p2,p3,p4⟩:=id X
 obtain⟨q0,q1,q2,q3,q4⟩:=id Y
 go_wp2_with fail
 go_ret
 exact⟨rfl,HB⟩
set_option maxHeartbeats 1000000 in
theorem io_6 (oa ob n:Int) (l a b:Nat×Nat) (t:Bool) (c1:∀w,Calls Tryz.prog 136 #[.agg #[.float .f64 b.1,.float .f64 b.2],.float .f64 0] w fun e w'=>e=.returned (.bool t)/\Below w.heap.size w w') (w:World):Calls Tryz.prog 133 #[.agg #[.int .i64 6,.int .i64 oa,.int .i64 ob,.int .i64 n,.float .f64 l.1,.float .f64 l.2],.agg #[.float .f64 a.1,.float .f64 a.2],.agg #[.float .f64 b.1,.float .f64 b.2]] w fun e w'=>e=.returned (.bool t)/\Below w.heap.size w w':=by
 obtain⟨O,X,Y,HB⟩:=enterI w 6 oa ob n l a b _ rfl
 go_enter Tryz.func133,Tryz.ntmps133
 go_upto_region 1 with fail
 generalize (((w.alloc (.cells #[.int .i64 6,.int .i64 oa,.int .i64 ob,.int .i64 n,.float .f64 l.1,.float .f64 l.2] 77)).alloc (.cells #[.float .f64 a.1,.float .f64 a.2] 24)).alloc (.cells #[.float .f64 b.1,.float .f64 b.2] 24))=V1 at *
 obtain⟨o0,o1,o2,o3,o4,o5,ol⟩:=id O
 obtain⟨p0,p1,p2,p3,p4⟩:=id X
 obtain⟨q0,q1,q2,q3,q4⟩:=id Y
 go_wp2_with (go_at_call 136;refine (c1 _).mono ?_;rintro _ V3 ⟨rfl,hb1⟩;replace HB:=later HB hb1)
 go_ret
 exact⟨rfl,HB⟩
set_option maxHeartbeats 1000000 in
theorem io_7 (oa ob n:Int) (l a b:Nat×Nat) (w:World):Calls Tryz.prog 133 #[.agg #[.int .i64 7,.int .i64 oa,.int .i64 ob,.int .i64 n,.float .f64 l.1,.float .f64 l.2],.agg #[.float .f64 a.1,.float .f64 a.2],.agg #[.float .f64 b.1,.float .f64 b.2]] w fun e w'=>e=.returned (.bool false)/\Below w.heap.size w w':=by
 obtain⟨O,X,Y,HB⟩:=enterI w 7 oa ob n l a b _ rfl
 go_enter Tryz.func133,Tryz.ntmps133
 go_upto_region 1 with fail
 generalize (((w.alloc (.cells #[.int .i64 7,.int .i64 oa,.int .i64 ob,.int .i64 n,.float .f64 l.1,.float .f64 l.2] 77)).alloc (.cells #[.float .f64 a.1,.float .f64 a.2] 24)).alloc (.cells #[.float .f64 b.1,.float .f64 b.2] 24))=V1 at *
 obtain⟨o0,o1,o2,o3,o4,o5,ol⟩:=id O
 obtain⟨p0,p1,p2,p3,p4⟩:=id X
 obtain⟨q0,q1,q2,q3,q4⟩:=id Y
 go_wp2_with fail
 go_ret
 exact⟨rfl,HB⟩
set_option maxHeartbeats 1000000 in
theorem io_8 (oa ob n:Int) (l a b:Nat×Nat) (t:Bool) (c1:n<0->∀w,Calls Tryz.prog 136 #[.agg #[.float .f64 a.1,.float .f64 a.2],.float .f64 0] w fun e w'=>e=.returned (.bool t)/\Below w.heap.size w w') (h0:¬n<0->t=false) (w:World):Calls Tryz.prog 133 #[.agg #[.int .i64 8,.int .i64 oa,.int .i64 ob,.int .i64 n,.float .f64 l.1,.float .f64 l.2],.agg #[.float .f64 a.1,.float .f64 a.2],.agg #[.float .f64 b.1,.float .f64 b.2]] w fun e w'=>e=.returned (.bool t)/\Below w.heap.size w w':=by
 by_cases hn:n<0
 ·replace c1:=c1 hn
  obtain⟨O,X,Y,HB⟩:=enterI w 8 oa ob n l a b _ rfl
  go_enter Tryz.func133,Tryz.ntmps133
  go_upto_region 1 with fail
  generalize (((w.alloc (.cells #[.int .i64 8,.int .i64 oa,.int .i64 ob,.int .i64 n,.float .f64 l.1,.float .f64 l.2] 77)).alloc (.cells #[.float .f64 a.1,.float .f64 a.2] 24)).alloc (.cells #[.float .f64 b.1,.float .f64 b.2] 24))=V1 at *
  obtain⟨o0,o1,o2,o3,o4,o5,ol⟩:=id O
  obtain⟨p0,p1,p2,p3,p4⟩:=id X
  obtain⟨q0,q1,q2,q3,q4⟩:=id Y
  go_wp2_with (go_at_call 136;refine (c1 _).mono ?_;rintro _ V3 ⟨rfl,hb1⟩;replace HB:=later HB hb1)
  go_ret
  exact⟨rfl,HB⟩
 ·obtain rfl:=h0 hn
  clear c1 h0
  obtain⟨O,X,Y,HB⟩:=enterI w 8 oa ob n l a b _ rfl
  go_enter Tryz.func133,Tryz.ntmps133
  go_upto_region 1 with fail
  generalize (((w.alloc (.cells #[.int .i64 8,.int .i64 oa,.int .i64 ob,.int .i64 n,.float .f64 l.1,.float .f64 l.2] 77)).alloc (.cells #[.float .f64 a.1,.float .f64 a.2] 24)).alloc (.cells #[.float .f64 b.1,.float .f64 b.2] 24))=V1 at *
  obtain⟨o0,o1,o2,o3,o4,o5,ol⟩:=id O
  obtain⟨p0,p1,p2,p3,p4⟩:=id X
  obtain⟨q0,q1,q2,q3,q4⟩:=id Y
  go_wp2_with fail
  go_ret
  exact⟨rfl,HB⟩
set_option maxHeartbeats 1000000 in
theorem io_9 (oa ob n:Int) (l a b:Nat×Nat) (t:Bool) (o:(FloatKind.f64.format.order a.1 0==some .lt)=t) (w:World):Calls Tryz.prog 133 #[.agg #[.int .i64 9,.int .i64 oa,.int .i64 ob,.int .i64 n,.float .f64 l.1,.float .f64 l.2],.agg #[.float .f64 a.1,.float .f64 a.2],.agg #[.float .f64 b.1,.float .f64 b.2]] w fun e w'=>e=.returned (.bool t)/\Below w.heap.size w w':=by
 obtain⟨O,X,Y,HB⟩:=enterI w 9 oa ob n l a b _ rfl
 go_enter Tryz.func133,Tryz.ntmps133
 go_upto_region 1 with fail
 generalize (((w.alloc (.cells #[.int .i64 9,.int .i64 oa,.int .i64 ob,.int .i64 n,.float .f64 l.1,.float .f64 l.2] 77)).alloc (.cells #[.float .f64 a.1,.float .f64 a.2] 24)).alloc (.cells #[.float .f64 b.1,.float .f64 b.2] 24))=V1 at *
 obtain⟨o0,o1,o2,o3,o4,o5,ol⟩:=id O
 obtain⟨p0,p1,p2,p3,p4⟩:=id X
 obtain⟨q0,q1,q2,q3,q4⟩:=id Y
 go_wp2_with fail
 go_ret
 exact⟨rfl,HB⟩
set_option maxHeartbeats 1000000 in
theorem io_10 (oa ob n:Int) (l a b:Nat×Nat) (w:World):Calls Tryz.prog 133 #[.agg #[.int .i64 10,.int .i64 oa,.int .i64 ob,.int .i64 n,.float .f64 l.1,.float .f64 l.2],.agg #[.float .f64 a.1,.float .f64 a.2],.agg #[.float .f64 b.1,.float .f64 b.2]] w fun e w'=>e=.returned (.bool false)/\Below w.heap.size w w':=by
 obtain⟨O,X,Y,HB⟩:=enterI w 10 oa ob n l a b _ rfl
 go_enter Tryz.func133,Tryz.ntmps133
 go_upto_region 1 with fail
 generalize (((w.alloc (.cells #[.int .i64 10,.int .i64 oa,.int .i64 ob,.int .i64 n,.float .f64 l.1,.float .f64 l.2] 77)).alloc (.cells #[.float .f64 a.1,.float .f64 a.2] 24)).alloc (.cells #[.float .f64 b.1,.float .f64 b.2] 24))=V1 at *
 obtain⟨o0,o1,o2,o3,o4,o5,ol⟩:=id O
 obtain⟨p0,p1,p2,p3,p4⟩:=id X
 obtain⟨q0,q1,q2,q3,q4⟩:=id Y
 go_wp2_with fail
 go_ret
 exact⟨rfl,HB⟩
set_option maxHeartbeats 1000000 in
theorem io_11 (oa ob n:Int) (l a b:Nat×Nat) (t:Bool) (o:(FloatKind.f64.format.order a.1 0==some .lt || FloatKind.f64.format.order a.1 0==some .eq)=t) (w:World):Calls Tryz.prog 133 #[.agg #[.int .i64 11,.int .i64 oa,.int .i64 ob,.int .i64 n,.float .f64 l.1,.float .f64 l.2],.agg #[.float .f64 a.1,.float .f64 a.2],.agg #[.float .f64 b.1,.float .f64 b.2]] w fun e w'=>e=.returned (.bool t)/\Below w.heap.size w w':=by
 obtain⟨O,X,Y,HB⟩:=enterI w 11 oa ob n l a b _ rfl
 go_enter Tryz.func133,Tryz.ntmps133
 go_upto_region 1 with fail
 generalize (((w.alloc (.cells #[.int .i64 11,.int .i64 oa,.int .i64 ob,.int .i64 n,.float .f64 l.1,.float .f64 l.2] 77)).alloc (.cells #[.float .f64 a.1,.float .f64 a.2] 24)).alloc (.cells #[.float .f64 b.1,.float .f64 b.2] 24))=V1 at *
 obtain⟨o0,o1,o2,o3,o4,o5,ol⟩:=id O
 obtain⟨p0,p1,p2,p3,p4⟩:=id X
 obtain⟨q0,q1,q2,q3,q4⟩:=id Y
 go_wp2_with fail
 go_ret
 exact⟨rfl,HB⟩
set_option maxHeartbeats 1000000 in
theorem io_12 (oa ob n:Int) (l a b:Nat×Nat) (w:World):Calls Tryz.prog 133 #[.agg #[.int .i64 12,.int .i64 oa,.int .i64 ob,.int .i64 n,.float .f64 l.1,.float .f64 l.2],.agg #[.float .f64 a.1,.float .f64 a.2],.agg #[.float .f64 b.1,.float .f64 b.2]] w fun e w'=>e=.returned (.bool false)/\Below w.heap.size w w':=by
 obtain⟨O,X,Y,HB⟩:=enterI w 12 oa ob n l a b _ rfl
 go_enter Tryz.func133,Tryz.ntmps133
 go_upto_region 1 with fail
 generalize (((w.alloc (.cells #[.int .i64 12,.int .i64 oa,.int .i64 ob,.int .i64 n,.float .f64 l.1,.float .f64 l.2] 77)).alloc (.cells #[.float .f64 a.1,.float .f64 a.2] 24)).alloc (.cells #[.float .f64 b.1,.float .f64 b.2] 24))=V1 at *
 obtain⟨o0,o1,o2,o3,o4,o5,ol⟩:=id O
 obtain⟨p0,p1,p2,p3,p4⟩:=id X
 obtain⟨q0,q1,q2,q3,q4⟩:=id Y
 go_wp2_with fail
 go_ret
 exact⟨rfl,HB⟩
set_option maxHeartbeats 1000000 in
theorem io_13 (oa ob n:Int) (l a b:Nat×Nat) (w:World):Calls Tryz.prog 133 #[.agg #[.int .i64 13,.int .i64 oa,.int .i64 ob,.int .i64 n,.float .f64 l.1,.float .f64 l.2],.agg #[.float .f64 a.1,.float .f64 a.2],.agg #[.float .f64 b.1,.float .f64 b.2]] w fun e w'=>e=.returned (.bool false)/\Below w.heap.size w w':=by
 obtain⟨O,X,Y,HB⟩:=enterI w 13 oa ob n l a b _ rfl
 go_enter Tryz.func133,Tryz.ntmps133
 go_upto_region 1 with fail
 generalize (((w.alloc (.cells #[.int .i64 13,.int .i64 oa,.int .i64 ob,.int .i64 n,.float .f64 l.1,.float .f64 l.2] 77)).alloc (.cells #[.float .f64 a.1,.float .f64 a.2] 24)).alloc (.cells #[.float .f64 b.1,.float .f64 b.2] 24))=V1 at *
 obtain⟨o0,o1,o2,o3,o4,o5,ol⟩:=id O
 obtain⟨p0,p1,p2,p3,p4⟩:=id X
 obtain⟨q0,q1,q2,q3,q4⟩:=id Y
 go_wp2_with fail
 go_ret
 exact⟨rfl,HB⟩
set_option maxHeartbeats 1000000 in
theorem io_14 (oa ob n:Int) (l a b:Nat×Nat) (w:World):Calls Tryz.prog 133 #[.agg #[.int .i64 14,.int .i64 oa,.int .i64 ob,.int .i64 n,.float .f64 l.1,.float .f64 l.2],.agg #[.float .f64 a.1,.float .f64 a.2],.agg #[.float .f64 b.1,.float .f64 b.2]] w fun e w'=>e=.returned (.bool false)/\Below w.heap.size w w':=by
 obtain⟨O,X,Y,HB⟩:=enterI w 14 oa ob n l a b _ rfl
 go_enter Tryz.func133,Tryz.ntmps133
 go_upto_region 1 with fail
 generalize (((w.alloc (.cells #[.int .i64 14,.int .i64 oa,.int .i64 ob,.int .i64 n,.float .f64 l.1,.float .f64 l.2] 77)).alloc (.cells #[.float .f64 a.1,.float .f64 a.2] 24)).alloc (.cells #[.float .f64 b.1,.float .f64 b.2] 24))=V1 at *
 obtain⟨o0,o1,o2,o3,o4,o5,ol⟩:=id O
 obtain⟨p0,p1,p2,p3,p4⟩:=id X
 obtain⟨q0,q1,q2,q3,q4⟩:=id Y
 go_wp2_with fail
 go_ret
 exact⟨rfl,HB⟩
set_option maxHeartbeats 1000000 in
theorem bnd_core (v:Nat×Nat) (b1 b2:Bool) (c1:∀w,Calls Tryz.prog 176 #[.float .f64 v.1,.int .i64 0] w fun e w'=>e=.returned (.bool b1)/\w=w') (c2:∀w,Calls Tryz.prog 176 #[.float .f64 v.2,.int .i64 0] w fun e w'=>e=.returned (.bool b2)/\w=w') (w:World):Calls Tryz.prog 135 #[.agg #[.float .f64 v.1,.float .f64 v.2]] w fun e w'=>e=.returned (.bool (!b1&&!b2))/\Below w.heap.size w w':=by
 have X:Has2 (w.alloc (.cells #[.float .f64 v.1,.float .f64 v.2] 24)) w.heap.size (.float .f64 v.1) (.float .f64 v.2):=has2_new _ _ _ _
 have HB:Below w.heap.size w (w.alloc (.cells #[.float .f64 v.1,.float .f64 v.2] 24)):=by go_grown
 go_enter Tryz.func135,Tryz.ntmps135
 go_upto_region 1 with fail
 generalize (w.alloc (.cells #[.float .f64 v.1,.float .f64 v.2] 24))=V1 at *
 obtain⟨p0,p1,p2,p3,p4⟩:=id X
 cases b1 <;> cases b2
 all_goals
  go_wp2_with (first
   | (go_at_call_of 176 (Value.float .f64 v.1);with_reducible refine (c1 _).mono ?_;rintro _ w1 ⟨rfl,rfl⟩)
   | (go_at_call_of 176 (Value.float .f64 v.2);with_reducible refine (c2 _).mono ?_;rintro _ w1 ⟨rfl,rfl⟩))
  go_ret
  exact⟨rfl,HB⟩
def bndB (v:Nat×Nat):Bool:=!infB v.1&&!infB v.2
theorem cBnd {v:Nat×Nat} (hv:W2 v) (w:World):Calls Tryz.prog 135 #[.agg #[.float .f64 v.1,.float .f64 v.2]] w fun e w'=>e=.returned (.bool (bndB v))/\Below w.heap.size w w':=bnd_core v _ _ (fun w=>isInf0_w v.1 hv.1 w) (fun w=>isInf0_w v.2 hv.2 w) w
end Go.Proofs.YtopfabemfbdccaaGreat
