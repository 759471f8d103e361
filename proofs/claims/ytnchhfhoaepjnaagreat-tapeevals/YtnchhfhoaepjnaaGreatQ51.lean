/- An operation's value, the laws' way: value, kind by kind. -/
import Derived.Test.YtnchhfhoaepjnaaGreatQ50
namespace Go.Proofs.YtnchhfhoaepjnaaGreat
open Go.ChangeShapes Go.WideShapes Go.ChangeAt Go.RowKit
theorem enterV (w:World) (k oa ob n:Int) (l:Nat×Nat) (V:World) (h:V=((((w.alloc (.cells #[.int .i64 k,.int .i64 oa,.int .i64 ob,.int .i64 n,.float .f64 l.1,.float .f64 l.2] 48)).alloc (.cells #[.float .f64 0,.float .f64 0] 46)).alloc (.cells #[.float .f64 0,.float .f64 0] 46)).alloc (.cells #[.float .f64 0,.float .f64 0] 46))):HasO V w.heap.size k oa ob n l∧Has2 V (w.heap.size+1) (.float .f64 0) (.float .f64 0)∧Has2 V (w.heap.size+1+1) (.float .f64 0) (.float .f64 0)∧Has2 V (w.heap.size+1+1+1) (.float .f64 0) (.float .f64 0)∧Below w.heap.size w V:=by
 subst h
 exact⟨(((hasO_new w k oa ob n l).alloc _).alloc _).alloc _,⟨by go_simp,by go_simp,by go_simp,by go_simp,by go_size⟩,⟨by go_simp,by go_simp,by go_simp,by go_simp,by go_size⟩,⟨by go_simp,by go_simp,by go_simp,by go_simp,by go_size⟩,by go_grown⟩
set_option maxHeartbeats 1000000 in
theorem vl_1 (oa ob n:Int) (l:Nat×Nat) (all xs:Value) (ca:∀w,Calls Tryz.prog 38 #[.int .i64 1] w fun e w'=>e=.returned (.int .i64 0)∧w=w') (w:World) (p:Nat×Nat) (t:Bool) (c2:∀W,Below w.heap.size w W→Calls Tryz.prog 45 #[.agg #[.int .i64 1,.int .i64 oa,.int .i64 ob,.int .i64 n,.float .f64 l.1,.float .f64 l.2],.agg #[.float .f64 0,.float .f64 0],.agg #[.float .f64 0,.float .f64 0],xs] W fun e w'=>e=.returned (.tuple #[.agg #[.float .f64 p.1,.float .f64 p.2],.bool t])∧Below W.heap.size W w'):Calls Tryz.prog 20 #[.agg #[.int .i64 1,.int .i64 oa,.int .i64 ob,.int .i64 n,.float .f64 l.1,.float .f64 l.2],all,xs] w fun e w'=>e=.returned (.tuple #[.agg #[.float .f64 p.1,.float .f64 p.2],.bool t])∧Below w.heap.size w w':=by
 obtain⟨O,R,X,Y,HB⟩:=enterV w 1 oa ob n l _ rfl
 go_enter Tryz.func20,Tryz.ntmps20
 go_upto_region 2 with fail
 generalize ((((w.alloc (.cells #[.int .i64 1,.int .i64 oa,.int .i64 ob,.int .i64 n,.float .f64 l.1,.float .f64 l.2] 48)).alloc (.cells #[.float .f64 0,.float .f64 0] 46)).alloc (.cells #[.float .f64 0,.float .f64 0] 46)).alloc (.cells #[.float .f64 0,.float .f64 0] 46))=V1 at *
 obtain⟨o0,o1,o2,o3,o4,o5,ol⟩:=id O
 obtain⟨g0,g1,g2,g3,g4⟩:=id X
 obtain⟨h0,h1,h2,h3,h4⟩:=id Y
 go_wp2_with (first
   | (go_at_call 38;refine (ca _).mono ?_;rintro _ w1 ⟨rfl,rfl⟩)
   | (go_at_call 45;refine (c2 _ HB).mono ?_;rintro _ V5 ⟨rfl,hb1⟩;replace R:=R.keep hb1;replace HB:=later HB hb1;clear hb1;obtain⟨k0,k1,k2,k3,k4⟩:=id R))
 refine bodyPost_ret (v:=.tuple #[.agg #[.float .f64 p.1,.float .f64 p.2],.bool t]) (by simp [results,Tryz.results20,go_sem, *]) rfl ⟨rfl, ?_⟩;repeat' (first | (with_reducible exact HB) | (with_reducible refine Below.setCell ?_ ?_ _) | go_size)
set_option maxHeartbeats 1000000 in
theorem vl_2 (oa ob n:Int) (l:Nat×Nat) (all xs:Value) (ca:∀w,Calls Tryz.prog 38 #[.int .i64 2] w fun e w'=>e=.returned (.int .i64 0)∧w=w') (w:World) (p:Nat×Nat) (t:Bool) (c2:∀W,Below w.heap.size w W→Calls Tryz.prog 45 #[.agg #[.int .i64 2,.int .i64 oa,.int .i64 ob,.int .i64 n,.float .f64 l.1,.float .f64 l.2],.agg #[.float .f64 0,.float .f64 0],.agg #[.float .f64 0,.float .f64 0],xs] W fun e w'=>e=.returned (.tuple #[.agg #[.float .f64 p.1,.float .f64 p.2],.bool t])∧Below W.heap.size W w'):Calls Tryz.prog 20 #[.agg #[.int .i64 2,.int .i64 oa,.int .i64 ob,.int .i64 n,.float .f64 l.1,.float .f64 l.2],all,xs] w fun e w'=>e=.returned (.tuple #[.agg #[.float .f64 p.1,.float .f64 p.2],.bool t])∧Below w.heap.size w w':=by
 obtain⟨O,R,X,Y,HB⟩:=enterV w 2 oa ob n l _ rfl
 go_enter Tryz.func20,Tryz.ntmps20
 go_upto_region 2 with fail
 generalize ((((w.alloc (.cells #[.int .i64 2,.int .i64 oa,.int .i64 ob,.int .i64 n,.float .f64 l.1,.float .f64 l.2] 48)).alloc (.cells #[.float .f64 0,.float .f64 0] 46)).alloc (.cells #[.float .f64 0,.float .f64 0] 46)).alloc (.cells #[.float .f64 0,.float .f64 0] 46))=V1 at *
 obtain⟨o0,o1,o2,o3,o4,o5,ol⟩:=id O
 obtain⟨g0,g1,g2,g3,g4⟩:=id X
 obtain⟨h0,h1,h2,h3,h4⟩:=id Y
 go_wp2_with (first
   | (go_at_call 38;refine (ca _).mono ?_;rintro _ w1 ⟨rfl,rfl⟩)
   | (go_at_call 45;refine (c2 _ HB).mono ?_;rintro _ V5 ⟨rfl,hb1⟩;replace R:=R.keep hb1;replace HB:=later HB hb1;clear hb1;obtain⟨k0,k1,k2,k3,k4⟩:=id R))
 refine bodyPost_ret (v:=.tuple #[.agg #[.float .f64 p.1,.float .f64 p.2],.bool t]) (by simp [results,Tryz.results20,go_sem, *]) rfl ⟨rfl, ?_⟩;repeat' (first | (with_reducible exact HB) | (with_reducible refine Below.setCell ?_ ?_ _) | go_size)
set_option maxHeartbeats 1000000 in
theorem vl_3 (n:Int) (i j m C xb xo:Nat) (l s u:Nat×Nat) (xs:Value) (hi:i<m) (hj:j<m) (ca:∀w,Calls Tryz.prog 38 #[.int .i64 3] w fun e w'=>e=.returned (.int .i64 2)∧w=w') (w:World) (hb:xb<w.heap.size) (x0:w.cell? ⟨xb,xo+i*2,none⟩=some (.float .f64 s.1)) (x1:w.cell? ⟨xb,xo+i*2+1,none⟩=some (.float .f64 s.2)) (y0:w.cell? ⟨xb,xo+j*2,none⟩=some (.float .f64 u.1)) (y1:w.cell? ⟨xb,xo+j*2+1,none⟩=some (.float .f64 u.2)) (p:Nat×Nat) (t:Bool) (c2:∀W,Below w.heap.size w W→Calls Tryz.prog 45 #[.agg #[.int .i64 3,.int .i64 (i:Int),.int .i64 (j:Int),.int .i64 n,.float .f64 l.1,.float .f64 l.2],.agg #[.float .f64 s.1,.float .f64 s.2],.agg #[.float .f64 u.1,.float .f64 u.2],xs] W fun e w'=>e=.returned (.tuple #[.agg #[.float .f64 p.1,.float .f64 p.2],.bool t])∧Below W.heap.size W w'):Calls Tryz.prog 20 #[.agg #[.int .i64 3,.int .i64 (i:Int),.int .i64 (j:Int),.int .i64 n,.float .f64 l.1,.float .f64 l.2],.slice (some ⟨xb,xo,none⟩) m C,xs] w fun e w'=>e=.returned (.tuple #[.agg #[.float .f64 p.1,.float .f64 p.2],.bool t])∧Below w.heap.size w w':=by
 obtain⟨O,R,X,Y,HB⟩:=enterV w 3 (i:Int) (j:Int) n l _ rfl
 go_enter Tryz.func20,Tryz.ntmps20
 go_upto_region 2 with fail
 replace x0:=keepsC HB x0 hb
 replace x1:=keepsC HB x1 hb
 replace y0:=keepsC HB y0 hb
 replace y1:=keepsC HB y1 hb
 generalize ((((w.alloc (.cells #[.int .i64 3,.int .i64 (i:Int),.int .i64 (j:Int),.int .i64 n,.float .f64 l.1,.float .f64 l.2] 48)).alloc (.cells #[.float .f64 0,.float .f64 0] 46)).alloc (.cells #[.float .f64 0,.float .f64 0] 46)).alloc (.cells #[.float .f64 0,.float .f64 0] 46))=V1 at *
 obtain⟨o0,o1,o2,o3,o4,o5,ol⟩:=id O
 obtain⟨p0,p1,p2,p3,p4⟩:=id X
 go_upto_region 4 with (go_at_call 38;refine (ca _).mono ?_;rintro _ w1 ⟨rfl,rfl⟩)
 clear p0 p1 p2 p3 p4 o0 o1 o2 o3 o4 o5 ol x0 x1
 replace O:=O.far2 (c:=w.heap.size+1+1) (by omega) (.float .f64 s.1) (.float .f64 s.2)
 replace R:=R.far2 (c:=w.heap.size+1+1) (by omega) (.float .f64 s.1) (.float .f64 s.2)
 replace Y:=Y.far2 (c:=w.heap.size+1+1) (by omega) (.float .f64 s.1) (.float .f64 s.2)
 replace X:=X.put (.float .f64 s.1) (.float .f64 s.2)
 have nx:xb≠w.heap.size+1+1:=by omega
 have nx':=Ne.symm nx
 replace y0:((V1.setCell ⟨w.heap.size+1+1,0,none⟩ (.float .f64 s.1)).setCell ⟨w.heap.size+1+1,1,none⟩ (.float .f64 s.2)).cell? ⟨xb,xo+j*2,none⟩=some (.float .f64 u.1):=by simp [World.cell?_setCell_far, *]
 replace y1:((V1.setCell ⟨w.heap.size+1+1,0,none⟩ (.float .f64 s.1)).setCell ⟨w.heap.size+1+1,1,none⟩ (.float .f64 s.2)).cell? ⟨xb,xo+j*2+1,none⟩=some (.float .f64 u.2):=by simp [World.cell?_setCell_far, *]
 clear nx nx'
 replace HB:Below w.heap.size w ((V1.setCell ⟨w.heap.size+1+1,0,none⟩ (.float .f64 s.1)).setCell ⟨w.heap.size+1+1,1,none⟩ (.float .f64 s.2)):=(HB.setCell (by simp;omega) _).setCell (by simp;omega) _
 generalize ((V1.setCell ⟨w.heap.size+1+1,0,none⟩ (.float .f64 s.1)).setCell ⟨w.heap.size+1+1,1,none⟩ (.float .f64 s.2))=V2 at *
 obtain⟨o0,o1,o2,o3,o4,o5,ol⟩:=id O
 obtain⟨q0,q1,q2,q3,q4⟩:=id Y
 go_upto_region 6 with (go_at_call 38;refine (ca _).mono ?_;rintro _ w1 ⟨rfl,rfl⟩)
 clear q0 q1 q2 q3 q4 o0 o1 o2 o3 o4 o5 ol y0 y1
 replace O:=O.far2 (c:=w.heap.size+1+1+1) (by omega) (.float .f64 u.1) (.float .f64 u.2)
 replace R:=R.far2 (c:=w.heap.size+1+1+1) (by omega) (.float .f64 u.1) (.float .f64 u.2)
 replace X:=X.far2 (c:=w.heap.size+1+1+1) (by omega) (.float .f64 u.1) (.float .f64 u.2)
 replace Y:=Y.put (.float .f64 u.1) (.float .f64 u.2)
 replace HB:Below w.heap.size w ((V2.setCell ⟨w.heap.size+1+1+1,0,none⟩ (.float .f64 u.1)).setCell ⟨w.heap.size+1+1+1,1,none⟩ (.float .f64 u.2)):=(HB.setCell (by simp;omega) _).setCell (by simp;omega) _
 generalize ((V2.setCell ⟨w.heap.size+1+1+1,0,none⟩ (.float .f64 u.1)).setCell ⟨w.heap.size+1+1+1,1,none⟩ (.float .f64 u.2))=V3 at *
 obtain⟨o0,o1,o2,o3,o4,o5,ol⟩:=id O
 obtain⟨g0,g1,g2,g3,g4⟩:=id X
 obtain⟨h0,h1,h2,h3,h4⟩:=id Y
 go_wp2_with (first
   | (go_at_call 38;refine (ca _).mono ?_;rintro _ w1 ⟨rfl,rfl⟩)
   | (go_at_call 45;refine (c2 _ HB).mono ?_;rintro _ V5 ⟨rfl,hb1⟩;replace R:=R.keep hb1;replace HB:=later HB hb1;clear hb1;obtain⟨k0,k1,k2,k3,k4⟩:=id R))
 refine bodyPost_ret (v:=.tuple #[.agg #[.float .f64 p.1,.float .f64 p.2],.bool t]) (by simp [results,Tryz.results20,go_sem, *]) rfl ⟨rfl, ?_⟩;repeat' (first | (with_reducible exact HB) | (with_reducible refine Below.setCell ?_ ?_ _) | go_size)
set_option maxHeartbeats 1000000 in
theorem vl_4 (n:Int) (i j m C xb xo:Nat) (l s u:Nat×Nat) (xs:Value) (hi:i<m) (hj:j<m) (ca:∀w,Calls Tryz.prog 38 #[.int .i64 4] w fun e w'=>e=.returned (.int .i64 2)∧w=w') (w:World) (hb:xb<w.heap.size) (x0:w.cell? ⟨xb,xo+i*2,none⟩=some (.float .f64 s.1)) (x1:w.cell? ⟨xb,xo+i*2+1,none⟩=some (.float .f64 s.2)) (y0:w.cell? ⟨xb,xo+j*2,none⟩=some (.float .f64 u.1)) (y1:w.cell? ⟨xb,xo+j*2+1,none⟩=some (.float .f64 u.2)) (p:Nat×Nat) (t:Bool) (c2:∀W,Below w.heap.size w W→Calls Tryz.prog 45 #[.agg #[.int .i64 4,.int .i64 (i:Int),.int .i64 (j:Int),.int .i64 n,.float .f64 l.1,.float .f64 l.2],.agg #[.float .f64 s.1,.float .f64 s.2],.agg #[.float .f64 u.1,.float .f64 u.2],xs] W fun e w'=>e=.returned (.tuple #[.agg #[.float .f64 p.1,.float .f64 p.2],.bool t])∧Below W.heap.size W w'):Calls Tryz.prog 20 #[.agg #[.int .i64 4,.int .i64 (i:Int),.int .i64 (j:Int),.int .i64 n,.float .f64 l.1,.float .f64 l.2],.slice (some ⟨xb,xo,none⟩) m C,xs] w fun e w'=>e=.returned (.tuple #[.agg #[.float .f64 p.1,.float .f64 p.2],.bool t])∧Below w.heap.size w w':=by
 obtain⟨O,R,X,Y,HB⟩:=enterV w 4 (i:Int) (j:Int) n l _ rfl
 go_enter Tryz.func20,Tryz.ntmps20
 go_upto_region 2 with fail
 replace x0:=keepsC HB x0 hb
 replace x1:=keepsC HB x1 hb
 replace y0:=keepsC HB y0 hb
 replace y1:=keepsC HB y1 hb
 generalize ((((w.alloc (.cells #[.int .i64 4,.int .i64 (i:Int),.int .i64 (j:Int),.int .i64 n,.float .f64 l.1,.float .f64 l.2] 48)).alloc (.cells #[.float .f64 0,.float .f64 0] 46)).alloc (.cells #[.float .f64 0,.float .f64 0] 46)).alloc (.cells #[.float .f64 0,.float .f64 0] 46))=V1 at *
 obtain⟨o0,o1,o2,o3,o4,o5,ol⟩:=id O
 obtain⟨p0,p1,p2,p3,p4⟩:=id X
 go_upto_region 4 with (go_at_call 38;refine (ca _).mono ?_;rintro _ w1 ⟨rfl,rfl⟩)
 clear p0 p1 p2 p3 p4 o0 o1 o2 o3 o4 o5 ol x0 x1
 replace O:=O.far2 (c:=w.heap.size+1+1) (by omega) (.float .f64 s.1) (.float .f64 s.2)
 replace R:=R.far2 (c:=w.heap.size+1+1) (by omega) (.float .f64 s.1) (.float .f64 s.2)
 replace Y:=Y.far2 (c:=w.heap.size+1+1) (by omega) (.float .f64 s.1) (.float .f64 s.2)
 replace X:=X.put (.float .f64 s.1) (.float .f64 s.2)
 have nx:xb≠w.heap.size+1+1:=by omega
 have nx':=Ne.symm nx
 replace y0:((V1.setCell ⟨w.heap.size+1+1,0,none⟩ (.float .f64 s.1)).setCell ⟨w.heap.size+1+1,1,none⟩ (.float .f64 s.2)).cell? ⟨xb,xo+j*2,none⟩=some (.float .f64 u.1):=by simp [World.cell?_setCell_far, *]
 replace y1:((V1.setCell ⟨w.heap.size+1+1,0,none⟩ (.float .f64 s.1)).setCell ⟨w.heap.size+1+1,1,none⟩ (.float .f64 s.2)).cell? ⟨xb,xo+j*2+1,none⟩=some (.float .f64 u.2):=by simp [World.cell?_setCell_far, *]
 clear nx nx'
 replace HB:Below w.heap.size w ((V1.setCell ⟨w.heap.size+1+1,0,none⟩ (.float .f64 s.1)).setCell ⟨w.heap.size+1+1,1,none⟩ (.float .f64 s.2)):=(HB.setCell (by simp;omega) _).setCell (by simp;omega) _
 generalize ((V1.setCell ⟨w.heap.size+1+1,0,none⟩ (.float .f64 s.1)).setCell ⟨w.heap.size+1+1,1,none⟩ (.float .f64 s.2))=V2 at *
 obtain⟨o0,o1,o2,o3,o4,o5,ol⟩:=id O
 obtain⟨q0,q1,q2,q3,q4⟩:=id Y
 go_upto_region 6 with (go_at_call 38;refine (ca _).mono ?_;rintro _ w1 ⟨rfl,rfl⟩)
 clear q0 q1 q2 q3 q4 o0 o1 o2 o3 o4 o5 ol y0 y1
 replace O:=O.far2 (c:=w.heap.size+1+1+1) (by omega) (.float .f64 u.1) (.float .f64 u.2)
 replace R:=R.far2 (c:=w.heap.size+1+1+1) (by omega) (.float .f64 u.1) (.float .f64 u.2)
 replace X:=X.far2 (c:=w.heap.size+1+1+1) (by omega) (.float .f64 u.1) (.float .f64 u.2)
 replace Y:=Y.put (.float .f64 u.1) (.float .f64 u.2)
 replace HB:Below w.heap.size w ((V2.setCell ⟨w.heap.size+1+1+1,0,none⟩ (.float .f64 u.1)).setCell ⟨w.heap.size+1+1+1,1,none⟩ (.float .f64 u.2)):=(HB.setCell (by simp;omega) _).setCell (by simp;omega) _
 generalize ((V2.setCell ⟨w.heap.size+1+1+1,0,none⟩ (.float .f64 u.1)).setCell ⟨w.heap.size+1+1+1,1,none⟩ (.float .f64 u.2))=V3 at *
 obtain⟨o0,o1,o2,o3,o4,o5,ol⟩:=id O
 obtain⟨g0,g1,g2,g3,g4⟩:=id X
 obtain⟨h0,h1,h2,h3,h4⟩:=id Y
 go_wp2_with (first
   | (go_at_call 38;refine (ca _).mono ?_;rintro _ w1 ⟨rfl,rfl⟩)
   | (go_at_call 45;refine (c2 _ HB).mono ?_;rintro _ V5 ⟨rfl,hb1⟩;replace R:=R.keep hb1;replace HB:=later HB hb1;clear hb1;obtain⟨k0,k1,k2,k3,k4⟩:=id R))
 refine bodyPost_ret (v:=.tuple #[.agg #[.float .f64 p.1,.float .f64 p.2],.bool t]) (by simp [results,Tryz.results20,go_sem, *]) rfl ⟨rfl, ?_⟩;repeat' (first | (with_reducible exact HB) | (with_reducible refine Below.setCell ?_ ?_ _) | go_size)
set_option maxHeartbeats 1000000 in
theorem vl_5 (n:Int) (i j m C xb xo:Nat) (l s u:Nat×Nat) (xs:Value) (hi:i<m) (hj:j<m) (ca:∀w,Calls Tryz.prog 38 #[.int .i64 5] w fun e w'=>e=.returned (.int .i64 2)∧w=w') (w:World) (hb:xb<w.heap.size) (x0:w.cell? ⟨xb,xo+i*2,none⟩=some (.float .f64 s.1)) (x1:w.cell? ⟨xb,xo+i*2+1,none⟩=some (.float .f64 s.2)) (y0:w.cell? ⟨xb,xo+j*2,none⟩=some (.float .f64 u.1)) (y1:w.cell? ⟨xb,xo+j*2+1,none⟩=some (.float .f64 u.2)) (p:Nat×Nat) (t:Bool) (c2:∀W,Below w.heap.size w W→Calls Tryz.prog 45 #[.agg #[.int .i64 5,.int .i64 (i:Int),.int .i64 (j:Int),.int .i64 n,.float .f64 l.1,.float .f64 l.2],.agg #[.float .f64 s.1,.float .f64 s.2],.agg #[.float .f64 u.1,.float .f64 u.2],xs] W fun e w'=>e=.returned (.tuple #[.agg #[.float .f64 p.1,.float .f64 p.2],.bool t])∧Below W.heap.size W w'):Calls Tryz.prog 20 #[.agg #[.int .i64 5,.int .i64 (i:Int),.int .i64 (j:Int),.int .i64 n,.float .f64 l.1,.float .f64 l.2],.slice (some ⟨xb,xo,none⟩) m C,xs] w fun e w'=>e=.returned (.tuple #[.agg #[.float .f64 p.1,.float .f64 p.2],.bool t])∧Below w.heap.size w w':=by
 obtain⟨O,R,X,Y,HB⟩:=enterV w 5 (i:Int) (j:Int) n l _ rfl
 go_enter Tryz.func20,Tryz.ntmps20
 go_upto_region 2 with fail
 replace x0:=keepsC HB x0 hb
 replace x1:=keepsC HB x1 hb
 replace y0:=keepsC HB y0 hb
 replace y1:=keepsC HB y1 hb
 generalize ((((w.alloc (.cells #[.int .i64 5,.int .i64 (i:Int),.int .i64 (j:Int),.int .i64 n,.float .f64 l.1,.float .f64 l.2] 48)).alloc (.cells #[.float .f64 0,.float .f64 0] 46)).alloc (.cells #[.float .f64 0,.float .f64 0] 46)).alloc (.cells #[.float .f64 0,.float .f64 0] 46))=V1 at *
 obtain⟨o0,o1,o2,o3,o4,o5,ol⟩:=id O
 obtain⟨p0,p1,p2,p3,p4⟩:=id X
 go_upto_region 4 with (go_at_call 38;refine (ca _).mono ?_;rintro _ w1 ⟨rfl,rfl⟩)
 clear p0 p1 p2 p3 p4 o0 o1 o2 o3 o4 o5 ol x0 x1
 replace O:=O.far2 (c:=w.heap.size+1+1) (by omega) (.float .f64 s.1) (.float .f64 s.2)
 replace R:=R.far2 (c:=w.heap.size+1+1) (by omega) (.float .f64 s.1) (.float .f64 s.2)
 replace Y:=Y.far2 (c:=w.heap.size+1+1) (by omega) (.float .f64 s.1) (.float .f64 s.2)
 replace X:=X.put (.float .f64 s.1) (.float .f64 s.2)
 have nx:xb≠w.heap.size+1+1:=by omega
 have nx':=Ne.symm nx
 replace y0:((V1.setCell ⟨w.heap.size+1+1,0,none⟩ (.float .f64 s.1)).setCell ⟨w.heap.size+1+1,1,none⟩ (.float .f64 s.2)).cell? ⟨xb,xo+j*2,none⟩=some (.float .f64 u.1):=by simp [World.cell?_setCell_far, *]
 replace y1:((V1.setCell ⟨w.heap.size+1+1,0,none⟩ (.float .f64 s.1)).setCell ⟨w.heap.size+1+1,1,none⟩ (.float .f64 s.2)).cell? ⟨xb,xo+j*2+1,none⟩=some (.float .f64 u.2):=by simp [World.cell?_setCell_far, *]
 clear nx nx'
 replace HB:Below w.heap.size w ((V1.setCell ⟨w.heap.size+1+1,0,none⟩ (.float .f64 s.1)).setCell ⟨w.heap.size+1+1,1,none⟩ (.float .f64 s.2)):=(HB.setCell (by simp;omega) _).setCell (by simp;omega) _
 generalize ((V1.setCell ⟨w.heap.size+1+1,0,none⟩ (.float .f64 s.1)).setCell ⟨w.heap.size+1+1,1,none⟩ (.float .f64 s.2))=V2 at *
 obtain⟨o0,o1,o2,o3,o4,o5,ol⟩:=id O
 obtain⟨q0,q1,q2,q3,q4⟩:=id Y
 go_upto_region 6 with (go_at_call 38;refine (ca _).mono ?_;rintro _ w1 ⟨rfl,rfl⟩)
 clear q0 q1 q2 q3 q4 o0 o1 o2 o3 o4 o5 ol y0 y1
 replace O:=O.far2 (c:=w.heap.size+1+1+1) (by omega) (.float .f64 u.1) (.float .f64 u.2)
 replace R:=R.far2 (c:=w.heap.size+1+1+1) (by omega) (.float .f64 u.1) (.float .f64 u.2)
 replace X:=X.far2 (c:=w.heap.size+1+1+1) (by omega) (.float .f64 u.1) (.float .f64 u.2)
 replace Y:=Y.put (.float .f64 u.1) (.float .f64 u.2)
 replace HB:Below w.heap.size w ((V2.setCell ⟨w.heap.size+1+1+1,0,none⟩ (.float .f64 u.1)).setCell ⟨w.heap.size+1+1+1,1,none⟩ (.float .f64 u.2)):=(HB.setCell (by simp;omega) _).setCell (by simp;omega) _
 generalize ((V2.setCell ⟨w.heap.size+1+1+1,0,none⟩ (.float .f64 u.1)).setCell ⟨w.heap.size+1+1+1,1,none⟩ (.float .f64 u.2))=V3 at *
 obtain⟨o0,o1,o2,o3,o4,o5,ol⟩:=id O
 obtain⟨g0,g1,g2,g3,g4⟩:=id X
 obtain⟨h0,h1,h2,h3,h4⟩:=id Y
 go_wp2_with (first
   | (go_at_call 38;refine (ca _).mono ?_;rintro _ w1 ⟨rfl,rfl⟩)
   | (go_at_call 45;refine (c2 _ HB).mono ?_;rintro _ V5 ⟨rfl,hb1⟩;replace R:=R.keep hb1;replace HB:=later HB hb1;clear hb1;obtain⟨k0,k1,k2,k3,k4⟩:=id R))
 refine bodyPost_ret (v:=.tuple #[.agg #[.float .f64 p.1,.float .f64 p.2],.bool t]) (by simp [results,Tryz.results20,go_sem, *]) rfl ⟨rfl, ?_⟩;repeat' (first | (with_reducible exact HB) | (with_reducible refine Below.setCell ?_ ?_ _) | go_size)
set_option maxHeartbeats 1000000 in
theorem vl_6 (n:Int) (i j m C xb xo:Nat) (l s u:Nat×Nat) (xs:Value) (hi:i<m) (hj:j<m) (ca:∀w,Calls Tryz.prog 38 #[.int .i64 6] w fun e w'=>e=.returned (.int .i64 2)∧w=w') (w:World) (hb:xb<w.heap.size) (x0:w.cell? ⟨xb,xo+i*2,none⟩=some (.float .f64 s.1)) (x1:w.cell? ⟨xb,xo+i*2+1,none⟩=some (.float .f64 s.2)) (y0:w.cell? ⟨xb,xo+j*2,none⟩=some (.float .f64 u.1)) (y1:w.cell? ⟨xb,xo+j*2+1,none⟩=some (.float .f64 u.2)) (p:Nat×Nat) (t:Bool) (c2:∀W,Below w.heap.size w W→Calls Tryz.prog 45 #[.agg #[.int .i64 6,.int .i64 (i:Int),.int .i64 (j:Int),.int .i64 n,.float .f64 l.1,.float .f64 l.2],.agg #[.float .f64 s.1,.float .f64 s.2],.agg #[.float .f64 u.1,.float .f64 u.2],xs] W fun e w'=>e=.returned (.tuple #[.agg #[.float .f64 p.1,.float .f64 p.2],.bool t])∧Below W.heap.size W w'):Calls Tryz.prog 20 #[.agg #[.int .i64 6,.int .i64 (i:Int),.int .i64 (j:Int),.int .i64 n,.float .f64 l.1,.float .f64 l.2],.slice (some ⟨xb,xo,none⟩) m C,xs] w fun e w'=>e=.returned (.tuple #[.agg #[.float .f64 p.1,.float .f64 p.2],.bool t])∧Below w.heap.size w w':=by
 obtain⟨O,R,X,Y,HB⟩:=enterV w 6 (i:Int) (j:Int) n l _ rfl
 go_enter Tryz.func20,Tryz.ntmps20
 go_upto_region 2 with fail
 replace x0:=keepsC HB x0 hb
 replace x1:=keepsC HB x1 hb
 replace y0:=keepsC HB y0 hb
 replace y1:=keepsC HB y1 hb
 generalize ((((w.alloc (.cells #[.int .i64 6,.int .i64 (i:Int),.int .i64 (j:Int),.int .i64 n,.float .f64 l.1,.float .f64 l.2] 48)).alloc (.cells #[.float .f64 0,.float .f64 0] 46)).alloc (.cells #[.float .f64 0,.float .f64 0] 46)).alloc (.cells #[.float .f64 0,.float .f64 0] 46))=V1 at *
 obtain⟨o0,o1,o2,o3,o4,o5,ol⟩:=id O
 obtain⟨p0,p1,p2,p3,p4⟩:=id X
 go_upto_region 4 with (go_at_call 38;refine (ca _).mono ?_;rintro _ w1 ⟨rfl,rfl⟩)
 clear p0 p1 p2 p3 p4 o0 o1 o2 o3 o4 o5 ol x0 x1
 replace O:=O.far2 (c:=w.heap.size+1+1) (by omega) (.float .f64 s.1) (.float .f64 s.2)
 replace R:=R.far2 (c:=w.heap.size+1+1) (by omega) (.float .f64 s.1) (.float .f64 s.2)
 replace Y:=Y.far2 (c:=w.heap.size+1+1) (by omega) (.float .f64 s.1) (.float .f64 s.2)
 replace X:=X.put (.float .f64 s.1) (.float .f64 s.2)
 have nx:xb≠w.heap.size+1+1:=by omega
 have nx':=Ne.symm nx
 replace y0:((V1.setCell ⟨w.heap.size+1+1,0,none⟩ (.float .f64 s.1)).setCell ⟨w.heap.size+1+1,1,none⟩ (.float .f64 s.2)).cell? ⟨xb,xo+j*2,none⟩=some (.float .f64 u.1):=by simp [World.cell?_setCell_far, *]
 replace y1:((V1.setCell ⟨w.heap.size+1+1,0,none⟩ (.float .f64 s.1)).setCell ⟨w.heap.size+1+1,1,none⟩ (.float .f64 s.2)).cell? ⟨xb,xo+j*2+1,none⟩=some (.float .f64 u.2):=by simp [World.cell?_setCell_far, *]
 clear nx nx'
 replace HB:Below w.heap.size w ((V1.setCell ⟨w.heap.size+1+1,0,none⟩ (.float .f64 s.1)).setCell ⟨w.heap.size+1+1,1,none⟩ (.float .f64 s.2)):=(HB.setCell (by simp;omega) _).setCell (by simp;omega) _
 generalize ((V1.setCell ⟨w.heap.size+1+1,0,none⟩ (.float .f64 s.1)).setCell ⟨w.heap.size+1+1,1,none⟩ (.float .f64 s.2))=V2 at *
 obtain⟨o0,o1,o2,o3,o4,o5,ol⟩:=id O
 obtain⟨q0,q1,q2,q3,q4⟩:=id Y
 go_upto_region 6 with (go_at_call 38;refine (ca _).mono ?_;rintro _ w1 ⟨rfl,rfl⟩)
 clear q0 q1 q2 q3 q4 o0 o1 o2 o3 o4 o5 ol y0 y1
 replace O:=O.far2 (c:=w.heap.size+1+1+1) (by omega) (.float .f64 u.1) (.float .f64 u.2)
 replace R:=R.far2 (c:=w.heap.size+1+1+1) (by omega) (.float .f64 u.1) (.float .f64 u.2)
 replace X:=X.far2 (c:=w.heap.size+1+1+1) (by omega) (.float .f64 u.1) (.float .f64 u.2)
 replace Y:=Y.put (.float .f64 u.1) (.float .f64 u.2)
 replace HB:Below w.heap.size w ((V2.setCell ⟨w.heap.size+1+1+1,0,none⟩ (.float .f64 u.1)).setCell ⟨w.heap.size+1+1+1,1,none⟩ (.float .f64 u.2)):=(HB.setCell (by simp;omega) _).setCell (by simp;omega) _
 generalize ((V2.setCell ⟨w.heap.size+1+1+1,0,none⟩ (.float .f64 u.1)).setCell ⟨w.heap.size+1+1+1,1,none⟩ (.float .f64 u.2))=V3 at *
 obtain⟨o0,o1,o2,o3,o4,o5,ol⟩:=id O
 obtain⟨g0,g1,g2,g3,g4⟩:=id X
 obtain⟨h0,h1,h2,h3,h4⟩:=id Y
 go_wp2_with (first
   | (go_at_call 38;refine (ca _).mono ?_;rintro _ w1 ⟨rfl,rfl⟩)
   | (go_at_call 45;refine (c2 _ HB).mono ?_;rintro _ V5 ⟨rfl,hb1⟩;replace R:=R.keep hb1;replace HB:=later HB hb1;clear hb1;obtain⟨k0,k1,k2,k3,k4⟩:=id R))
 refine bodyPost_ret (v:=.tuple #[.agg #[.float .f64 p.1,.float .f64 p.2],.bool t]) (by simp [results,Tryz.results20,go_sem, *]) rfl ⟨rfl, ?_⟩;repeat' (first | (with_reducible exact HB) | (with_reducible refine Below.setCell ?_ ?_ _) | go_size)
set_option maxHeartbeats 1000000 in
theorem vl_7 (ob n:Int) (i m C xb xo:Nat) (l s:Nat×Nat) (xs:Value) (hi:i<m) (ca:∀w,Calls Tryz.prog 38 #[.int .i64 7] w fun e w'=>e=.returned (.int .i64 1)∧w=w') (w:World) (hb:xb<w.heap.size) (x0:w.cell? ⟨xb,xo+i*2,none⟩=some (.float .f64 s.1)) (x1:w.cell? ⟨xb,xo+i*2+1,none⟩=some (.float .f64 s.2)) (p:Nat×Nat) (t:Bool) (c2:∀W,Below w.heap.size w W→Calls Tryz.prog 45 #[.agg #[.int .i64 7,.int .i64 (i:Int),.int .i64 ob,.int .i64 n,.float .f64 l.1,.float .f64 l.2],.agg #[.float .f64 s.1,.float .f64 s.2],.agg #[.float .f64 0,.float .f64 0],xs] W fun e w'=>e=.returned (.tuple #[.agg #[.float .f64 p.1,.float .f64 p.2],.bool t])∧Below W.heap.size W w'):Calls Tryz.prog 20 #[.agg #[.int .i64 7,.int .i64 (i:Int),.int .i64 ob,.int .i64 n,.float .f64 l.1,.float .f64 l.2],.slice (some ⟨xb,xo,none⟩) m C,xs] w fun e w'=>e=.returned (.tuple #[.agg #[.float .f64 p.1,.float .f64 p.2],.bool t])∧Below w.heap.size w w':=by
 obtain⟨O,R,X,Y,HB⟩:=enterV w 7 (i:Int) ob n l _ rfl
 go_enter Tryz.func20,Tryz.ntmps20
 go_upto_region 2 with fail
 replace x0:=keepsC HB x0 hb
 replace x1:=keepsC HB x1 hb
 generalize ((((w.alloc (.cells #[.int .i64 7,.int .i64 (i:Int),.int .i64 ob,.int .i64 n,.float .f64 l.1,.float .f64 l.2] 48)).alloc (.cells #[.float .f64 0,.float .f64 0] 46)).alloc (.cells #[.float .f64 0,.float .f64 0] 46)).alloc (.cells #[.float .f64 0,.float .f64 0] 46))=V1 at *
 obtain⟨o0,o1,o2,o3,o4,o5,ol⟩:=id O
 obtain⟨p0,p1,p2,p3,p4⟩:=id X
 go_upto_region 4 with (go_at_call 38;refine (ca _).mono ?_;rintro _ w1 ⟨rfl,rfl⟩)
 clear p0 p1 p2 p3 p4 o0 o1 o2 o3 o4 o5 ol x0 x1
 replace O:=O.far2 (c:=w.heap.size+1+1) (by omega) (.float .f64 s.1) (.float .f64 s.2)
 replace R:=R.far2 (c:=w.heap.size+1+1) (by omega) (.float .f64 s.1) (.float .f64 s.2)
 replace Y:=Y.far2 (c:=w.heap.size+1+1) (by omega) (.float .f64 s.1) (.float .f64 s.2)
 replace X:=X.put (.float .f64 s.1) (.float .f64 s.2)
 replace HB:Below w.heap.size w ((V1.setCell ⟨w.heap.size+1+1,0,none⟩ (.float .f64 s.1)).setCell ⟨w.heap.size+1+1,1,none⟩ (.float .f64 s.2)):=(HB.setCell (by simp;omega) _).setCell (by simp;omega) _
 generalize ((V1.setCell ⟨w.heap.size+1+1,0,none⟩ (.float .f64 s.1)).setCell ⟨w.heap.size+1+1,1,none⟩ (.float .f64 s.2))=V2 at *
 obtain⟨o0,o1,o2,o3,o4,o5,ol⟩:=id O
 obtain⟨g0,g1,g2,g3,g4⟩:=id X
 obtain⟨h0,h1,h2,h3,h4⟩:=id Y
 go_wp2_with (first
   | (go_at_call 38;refine (ca _).mono ?_;rintro _ w1 ⟨rfl,rfl⟩)
   | (go_at_call 45;refine (c2 _ HB).mono ?_;rintro _ V5 ⟨rfl,hb1⟩;replace R:=R.keep hb1;replace HB:=later HB hb1;clear hb1;obtain⟨k0,k1,k2,k3,k4⟩:=id R))
 refine bodyPost_ret (v:=.tuple #[.agg #[.float .f64 p.1,.float .f64 p.2],.bool t]) (by simp [results,Tryz.results20,go_sem, *]) rfl ⟨rfl, ?_⟩;repeat' (first | (with_reducible exact HB) | (with_reducible refine Below.setCell ?_ ?_ _) | go_size)
set_option maxHeartbeats 1000000 in
theorem vl_8 (ob n:Int) (i m C xb xo:Nat) (l s:Nat×Nat) (xs:Value) (hi:i<m) (ca:∀w,Calls Tryz.prog 38 #[.int .i64 8] w fun e w'=>e=.returned (.int .i64 1)∧w=w') (w:World) (hb:xb<w.heap.size) (x0:w.cell? ⟨xb,xo+i*2,none⟩=some (.float .f64 s.1)) (x1:w.cell? ⟨xb,xo+i*2+1,none⟩=some (.float .f64 s.2)) (p:Nat×Nat) (t:Bool) (c2:∀W,Below w.heap.size w W→Calls Tryz.prog 45 #[.agg #[.int .i64 8,.int .i64 (i:Int),.int .i64 ob,.int .i64 n,.float .f64 l.1,.float .f64 l.2],.agg #[.float .f64 s.1,.float .f64 s.2],.agg #[.float .f64 0,.float .f64 0],xs] W fun e w'=>e=.returned (.tuple #[.agg #[.float .f64 p.1,.float .f64 p.2],.bool t])∧Below W.heap.size W w'):Calls Tryz.prog 20 #[.agg #[.int .i64 8,.int .i64 (i:Int),.int .i64 ob,.int .i64 n,.float .f64 l.1,.float .f64 l.2],.slice (some ⟨xb,xo,none⟩) m C,xs] w fun e w'=>e=.returned (.tuple #[.agg #[.float .f64 p.1,.float .f64 p.2],.bool t])∧Below w.heap.size w w':=by
 obtain⟨O,R,X,Y,HB⟩:=enterV w 8 (i:Int) ob n l _ rfl
 go_enter Tryz.func20,Tryz.ntmps20
 go_upto_region 2 with fail
 replace x0:=keepsC HB x0 hb
 replace x1:=keepsC HB x1 hb
 generalize ((((w.alloc (.cells #[.int .i64 8,.int .i64 (i:Int),.int .i64 ob,.int .i64 n,.float .f64 l.1,.float .f64 l.2] 48)).alloc (.cells #[.float .f64 0,.float .f64 0] 46)).alloc (.cells #[.float .f64 0,.float .f64 0] 46)).alloc (.cells #[.float .f64 0,.float .f64 0] 46))=V1 at *
 obtain⟨o0,o1,o2,o3,o4,o5,ol⟩:=id O
 obtain⟨p0,p1,p2,p3,p4⟩:=id X
 go_upto_region 4 with (go_at_call 38;refine (ca _).mono ?_;rintro _ w1 ⟨rfl,rfl⟩)
 clear p0 p1 p2 p3 p4 o0 o1 o2 o3 o4 o5 ol x0 x1
 replace O:=O.far2 (c:=w.heap.size+1+1) (by omega) (.float .f64 s.1) (.float .f64 s.2)
 replace R:=R.far2 (c:=w.heap.size+1+1) (by omega) (.float .f64 s.1) (.float .f64 s.2)
 replace Y:=Y.far2 (c:=w.heap.size+1+1) (by omega) (.float .f64 s.1) (.float .f64 s.2)
 replace X:=X.put (.float .f64 s.1) (.float .f64 s.2)
 replace HB:Below w.heap.size w ((V1.setCell ⟨w.heap.size+1+1,0,none⟩ (.float .f64 s.1)).setCell ⟨w.heap.size+1+1,1,none⟩ (.float .f64 s.2)):=(HB.setCell (by simp;omega) _).setCell (by simp;omega) _
 generalize ((V1.setCell ⟨w.heap.size+1+1,0,none⟩ (.float .f64 s.1)).setCell ⟨w.heap.size+1+1,1,none⟩ (.float .f64 s.2))=V2 at *
 obtain⟨o0,o1,o2,o3,o4,o5,ol⟩:=id O
 obtain⟨g0,g1,g2,g3,g4⟩:=id X
 obtain⟨h0,h1,h2,h3,h4⟩:=id Y
 go_wp2_with (first
   | (go_at_call 38;refine (ca _).mono ?_;rintro _ w1 ⟨rfl,rfl⟩)
   | (go_at_call 45;refine (c2 _ HB).mono ?_;rintro _ V5 ⟨rfl,hb1⟩;replace R:=R.keep hb1;replace HB:=later HB hb1;clear hb1;obtain⟨k0,k1,k2,k3,k4⟩:=id R))
 refine bodyPost_ret (v:=.tuple #[.agg #[.float .f64 p.1,.float .f64 p.2],.bool t]) (by simp [results,Tryz.results20,go_sem, *]) rfl ⟨rfl, ?_⟩;repeat' (first | (with_reducible exact HB) | (with_reducible refine Below.setCell ?_ ?_ _) | go_size)
set_option maxHeartbeats 1000000 in
theorem vl_9 (ob n:Int) (i m C xb xo:Nat) (l s:Nat×Nat) (xs:Value) (hi:i<m) (ca:∀w,Calls Tryz.prog 38 #[.int .i64 9] w fun e w'=>e=.returned (.int .i64 1)∧w=w') (w:World) (hb:xb<w.heap.size) (x0:w.cell? ⟨xb,xo+i*2,none⟩=some (.float .f64 s.1)) (x1:w.cell? ⟨xb,xo+i*2+1,none⟩=some (.float .f64 s.2)) (p:Nat×Nat) (t:Bool) (c2:∀W,Below w.heap.size w W→Calls Tryz.prog 45 #[.agg #[.int .i64 9,.int .i64 (i:Int),.int .i64 ob,.int .i64 n,.float .f64 l.1,.float .f64 l.2],.agg #[.float .f64 s.1,.float .f64 s.2],.agg #[.float .f64 0,.float .f64 0],xs] W fun e w'=>e=.returned (.tuple #[.agg #[.float .f64 p.1,.float .f64 p.2],.bool t])∧Below W.heap.size W w'):Calls Tryz.prog 20 #[.agg #[.int .i64 9,.int .i64 (i:Int),.int .i64 ob,.int .i64 n,.float .f64 l.1,.float .f64 l.2],.slice (some ⟨xb,xo,none⟩) m C,xs] w fun e w'=>e=.returned (.tuple #[.agg #[.float .f64 p.1,.float .f64 p.2],.bool t])∧Below w.heap.size w w':=by
 obtain⟨O,R,X,Y,HB⟩:=enterV w 9 (i:Int) ob n l _ rfl
 go_enter Tryz.func20,Tryz.ntmps20
 go_upto_region 2 with fail
 replace x0:=keepsC HB x0 hb
 replace x1:=keepsC HB x1 hb
 generalize ((((w.alloc (.cells #[.int .i64 9,.int .i64 (i:Int),.int .i64 ob,.int .i64 n,.float .f64 l.1,.float .f64 l.2] 48)).alloc (.cells #[.float .f64 0,.float .f64 0] 46)).alloc (.cells #[.float .f64 0,.float .f64 0] 46)).alloc (.cells #[.float .f64 0,.float .f64 0] 46))=V1 at *
 obtain⟨o0,o1,o2,o3,o4,o5,ol⟩:=id O
 obtain⟨p0,p1,p2,p3,p4⟩:=id X
 go_upto_region 4 with (go_at_call 38;refine (ca _).mono ?_;rintro _ w1 ⟨rfl,rfl⟩)
 clear p0 p1 p2 p3 p4 o0 o1 o2 o3 o4 o5 ol x0 x1
 replace O:=O.far2 (c:=w.heap.size+1+1) (by omega) (.float .f64 s.1) (.float .f64 s.2)
 replace R:=R.far2 (c:=w.heap.size+1+1) (by omega) (.float .f64 s.1) (.float .f64 s.2)
 replace Y:=Y.far2 (c:=w.heap.size+1+1) (by omega) (.float .f64 s.1) (.float .f64 s.2)
 replace X:=X.put (.float .f64 s.1) (.float .f64 s.2)
 replace HB:Below w.heap.size w ((V1.setCell ⟨w.heap.size+1+1,0,none⟩ (.float .f64 s.1)).setCell ⟨w.heap.size+1+1,1,none⟩ (.float .f64 s.2)):=(HB.setCell (by simp;omega) _).setCell (by simp;omega) _
 generalize ((V1.setCell ⟨w.heap.size+1+1,0,none⟩ (.float .f64 s.1)).setCell ⟨w.heap.size+1+1,1,none⟩ (.float .f64 s.2))=V2 at *
 obtain⟨o0,o1,o2,o3,o4,o5,ol⟩:=id O
 obtain⟨g0,g1,g2,g3,g4⟩:=id X
 obtain⟨h0,h1,h2,h3,h4⟩:=id Y
 go_wp2_with (first
   | (go_at_call 38;refine (ca _).mono ?_;rintro _ w1 ⟨rfl,rfl⟩)
   | (go_at_call 45;refine (c2 _ HB).mono ?_;rintro _ V5 ⟨rfl,hb1⟩;replace R:=R.keep hb1;replace HB:=later HB hb1;clear hb1;obtain⟨k0,k1,k2,k3,k4⟩:=id R))
 refine bodyPost_ret (v:=.tuple #[.agg #[.float .f64 p.1,.float .f64 p.2],.bool t]) (by simp [results,Tryz.results20,go_sem, *]) rfl ⟨rfl, ?_⟩;repeat' (first | (with_reducible exact HB) | (with_reducible refine Below.setCell ?_ ?_ _) | go_size)
set_option maxHeartbeats 1000000 in
theorem vl_10 (ob n:Int) (i m C xb xo:Nat) (l s:Nat×Nat) (xs:Value) (hi:i<m) (ca:∀w,Calls Tryz.prog 38 #[.int .i64 10] w fun e w'=>e=.returned (.int .i64 1)∧w=w') (w:World) (hb:xb<w.heap.size) (x0:w.cell? ⟨xb,xo+i*2,none⟩=some (.float .f64 s.1)) (x1:w.cell? ⟨xb,xo+i*2+1,none⟩=some (.float .f64 s.2)) (p:Nat×Nat) (c2:∀w,Calls Tryz.prog 40 #[.agg #[.float .f64 s.1,.float .f64 s.2]] w fun e w'=>e=.returned (.agg #[.float .f64 p.1,.float .f64 p.2])∧Below w.heap.size w w'):Calls Tryz.prog 20 #[.agg #[.int .i64 10,.int .i64 (i:Int),.int .i64 ob,.int .i64 n,.float .f64 l.1,.float .f64 l.2],.slice (some ⟨xb,xo,none⟩) m C,xs] w fun e w'=>e=.returned (.tuple #[.agg #[.float .f64 p.1,.float .f64 p.2],.bool true])∧Below w.heap.size w w':=by
 obtain⟨O,R,X,Y,HB⟩:=enterV w 10 (i:Int) ob n l _ rfl
 go_enter Tryz.func20,Tryz.ntmps20
 go_upto_region 2 with fail
 replace x0:=keepsC HB x0 hb
 replace x1:=keepsC HB x1 hb
 generalize ((((w.alloc (.cells #[.int .i64 10,.int .i64 (i:Int),.int .i64 ob,.int .i64 n,.float .f64 l.1,.float .f64 l.2] 48)).alloc (.cells #[.float .f64 0,.float .f64 0] 46)).alloc (.cells #[.float .f64 0,.float .f64 0] 46)).alloc (.cells #[.float .f64 0,.float .f64 0] 46))=V1 at *
 obtain⟨o0,o1,o2,o3,o4,o5,ol⟩:=id O
 obtain⟨p0,p1,p2,p3,p4⟩:=id X
 go_upto_region 4 with (go_at_call 38;refine (ca _).mono ?_;rintro _ w1 ⟨rfl,rfl⟩)
 clear p0 p1 p2 p3 p4 o0 o1 o2 o3 o4 o5 ol x0 x1
 replace O:=O.far2 (c:=w.heap.size+1+1) (by omega) (.float .f64 s.1) (.float .f64 s.2)
 replace R:=R.far2 (c:=w.heap.size+1+1) (by omega) (.float .f64 s.1) (.float .f64 s.2)
 replace Y:=Y.far2 (c:=w.heap.size+1+1) (by omega) (.float .f64 s.1) (.float .f64 s.2)
 replace X:=X.put (.float .f64 s.1) (.float .f64 s.2)
 replace HB:Below w.heap.size w ((V1.setCell ⟨w.heap.size+1+1,0,none⟩ (.float .f64 s.1)).setCell ⟨w.heap.size+1+1,1,none⟩ (.float .f64 s.2)):=(HB.setCell (by simp;omega) _).setCell (by simp;omega) _
 generalize ((V1.setCell ⟨w.heap.size+1+1,0,none⟩ (.float .f64 s.1)).setCell ⟨w.heap.size+1+1,1,none⟩ (.float .f64 s.2))=V2 at *
 obtain⟨o0,o1,o2,o3,o4,o5,ol⟩:=id O
 obtain⟨g0,g1,g2,g3,g4⟩:=id X
 obtain⟨h0,h1,h2,h3,h4⟩:=id Y
 go_wp2_with (first
   | (go_at_call 38;refine (ca _).mono ?_;rintro _ w1 ⟨rfl,rfl⟩)
   | (go_at_call 40;refine (c2 _).mono ?_;rintro _ V5 ⟨rfl,hb1⟩;replace R:=R.keep hb1;replace HB:=later HB hb1;clear hb1;obtain⟨k0,k1,k2,k3,k4⟩:=id R))
 refine bodyPost_ret (v:=.tuple #[.agg #[.float .f64 p.1,.float .f64 p.2],.bool true]) (by simp [results,Tryz.results20,go_sem, *]) rfl ⟨rfl, ?_⟩;repeat' (first | (with_reducible exact HB) | (with_reducible refine Below.setCell ?_ ?_ _) | go_size)
set_option maxHeartbeats 1000000 in
theorem vl_11 (ob n:Int) (i m C xb xo:Nat) (l s:Nat×Nat) (xs:Value) (hi:i<m) (ca:∀w,Calls Tryz.prog 38 #[.int .i64 11] w fun e w'=>e=.returned (.int .i64 1)∧w=w') (w:World) (hb:xb<w.heap.size) (x0:w.cell? ⟨xb,xo+i*2,none⟩=some (.float .f64 s.1)) (x1:w.cell? ⟨xb,xo+i*2+1,none⟩=some (.float .f64 s.2)) (p:Nat×Nat) (c2:∀w,Calls Tryz.prog 41 #[.agg #[.float .f64 s.1,.float .f64 s.2]] w fun e w'=>e=.returned (.agg #[.float .f64 p.1,.float .f64 p.2])∧Below w.heap.size w w') (t:Bool) (o:(FloatKind.f64.format.order s.1 0==some .gt)=t):Calls Tryz.prog 20 #[.agg #[.int .i64 11,.int .i64 (i:Int),.int .i64 ob,.int .i64 n,.float .f64 l.1,.float .f64 l.2],.slice (some ⟨xb,xo,none⟩) m C,xs] w fun e w'=>e=.returned (.tuple #[.agg #[.float .f64 p.1,.float .f64 p.2],.bool t])∧Below w.heap.size w w':=by
 obtain⟨O,R,X,Y,HB⟩:=enterV w 11 (i:Int) ob n l _ rfl
 go_enter Tryz.func20,Tryz.ntmps20
 go_upto_region 2 with fail
 replace x0:=keepsC HB x0 hb
 replace x1:=keepsC HB x1 hb
 generalize ((((w.alloc (.cells #[.int .i64 11,.int .i64 (i:Int),.int .i64 ob,.int .i64 n,.float .f64 l.1,.float .f64 l.2] 48)).alloc (.cells #[.float .f64 0,.float .f64 0] 46)).alloc (.cells #[.float .f64 0,.float .f64 0] 46)).alloc (.cells #[.float .f64 0,.float .f64 0] 46))=V1 at *
 obtain⟨o0,o1,o2,o3,o4,o5,ol⟩:=id O
 obtain⟨p0,p1,p2,p3,p4⟩:=id X
 go_upto_region 4 with (go_at_call 38;refine (ca _).mono ?_;rintro _ w1 ⟨rfl,rfl⟩)
 clear p0 p1 p2 p3 p4 o0 o1 o2 o3 o4 o5 ol x0 x1
 replace O:=O.far2 (c:=w.heap.size+1+1) (by omega) (.float .f64 s.1) (.float .f64 s.2)
 replace R:=R.far2 (c:=w.heap.size+1+1) (by omega) (.float .f64 s.1) (.float .f64 s.2)
 replace Y:=Y.far2 (c:=w.heap.size+1+1) (by omega) (.float .f64 s.1) (.float .f64 s.2)
 replace X:=X.put (.float .f64 s.1) (.float .f64 s.2)
 replace HB:Below w.heap.size w ((V1.setCell ⟨w.heap.size+1+1,0,none⟩ (.float .f64 s.1)).setCell ⟨w.heap.size+1+1,1,none⟩ (.float .f64 s.2)):=(HB.setCell (by simp;omega) _).setCell (by simp;omega) _
 generalize ((V1.setCell ⟨w.heap.size+1+1,0,none⟩ (.float .f64 s.1)).setCell ⟨w.heap.size+1+1,1,none⟩ (.float .f64 s.2))=V2 at *
 obtain⟨o0,o1,o2,o3,o4,o5,ol⟩:=id O
 obtain⟨g0,g1,g2,g3,g4⟩:=id X
 obtain⟨h0,h1,h2,h3,h4⟩:=id Y
 go_upto_region 10 with (go_at_call 38;refine (ca _).mono ?_;rintro _ w1 ⟨rfl,rfl⟩)
 clear o0 o1 o2 o3 o4 o5 ol g0 g1 g2 g3 g4 h0 h1 h2 h3 h4
 apply tail_stored 5 (w.heap.size+1) _ _ (.float .f64 p.1) (.float .f64 p.2) (fun W=>Below w.heap.size w W∧Has2 W (w.heap.size+1+1) (.float .f64 s.1) (.float .f64 s.2)) (by kernel_rfl) (by kernel_rfl) rfl R ⟨HB.drew,X.drew⟩ (fun _ _ d hb=>⟨later d.1 hb,d.2.keep hb⟩) (fun W d _=>⟨(d.1.setCell (by simp) _).setCell (by simp) _,d.2.far2 (by omega) _ _⟩)
 · intro W1 hW
   replace X:=hW.2
   have kX0:=fun n:Behind W1=>n.cell X.1 X.2.2.2.2;have kX1:=fun n:Behind W1=>n.cell X.2.1 X.2.2.2.2
   simp only [List.take_succ_cons,List.take_zero]
   repeat (go_big_quiet_step (first | (go_at_call 41;with_reducible refine Behind.call (c2 _))))
   exact wpQuiet_nil rfl
 · intro W hW
   obtain⟨k0,k1,k2,k3,k4⟩:=hW
   simp [execOp,Act.eval,go_sem, *]
 intro W hW R2
 replace HB:=hW.1
 obtain⟨k0,k1,k2,k3,k4⟩:=id R2
 simp only [List.drop_succ_cons,List.drop_zero]
 go_wp2_with fail
 refine bodyPost_ret (v:=.tuple #[.agg #[.float .f64 p.1,.float .f64 p.2],.bool t]) (by simp [results,Tryz.results20,go_sem, *]) rfl ⟨rfl, ?_⟩;repeat' (first | (with_reducible exact HB) | (with_reducible refine Below.setCell ?_ ?_ _) | go_size)
set_option maxHeartbeats 1000000 in
theorem vl_12 (ob n:Int) (i m C xb xo:Nat) (l s:Nat×Nat) (xs:Value) (hi:i<m) (ca:∀w,Calls Tryz.prog 38 #[.int .i64 12] w fun e w'=>e=.returned (.int .i64 1)∧w=w') (w:World) (hb:xb<w.heap.size) (x0:w.cell? ⟨xb,xo+i*2,none⟩=some (.float .f64 s.1)) (x1:w.cell? ⟨xb,xo+i*2+1,none⟩=some (.float .f64 s.2)) (p:Nat×Nat) (c2:∀w,Calls Tryz.prog 42 #[.agg #[.float .f64 s.1,.float .f64 s.2]] w fun e w'=>e=.returned (.agg #[.float .f64 p.1,.float .f64 p.2])∧Below w.heap.size w w'):Calls Tryz.prog 20 #[.agg #[.int .i64 12,.int .i64 (i:Int),.int .i64 ob,.int .i64 n,.float .f64 l.1,.float .f64 l.2],.slice (some ⟨xb,xo,none⟩) m C,xs] w fun e w'=>e=.returned (.tuple #[.agg #[.float .f64 p.1,.float .f64 p.2],.bool true])∧Below w.heap.size w w':=by
 obtain⟨O,R,X,Y,HB⟩:=enterV w 12 (i:Int) ob n l _ rfl
 go_enter Tryz.func20,Tryz.ntmps20
 go_upto_region 2 with fail
 replace x0:=keepsC HB x0 hb
 replace x1:=keepsC HB x1 hb
 generalize ((((w.alloc (.cells #[.int .i64 12,.int .i64 (i:Int),.int .i64 ob,.int .i64 n,.float .f64 l.1,.float .f64 l.2] 48)).alloc (.cells #[.float .f64 0,.float .f64 0] 46)).alloc (.cells #[.float .f64 0,.float .f64 0] 46)).alloc (.cells #[.float .f64 0,.float .f64 0] 46))=V1 at *
 obtain⟨o0,o1,o2,o3,o4,o5,ol⟩:=id O
 obtain⟨p0,p1,p2,p3,p4⟩:=id X
 go_upto_region 4 with (go_at_call 38;refine (ca _).mono ?_;rintro _ w1 ⟨rfl,rfl⟩)
 clear p0 p1 p2 p3 p4 o0 o1 o2 o3 o4 o5 ol x0 x1
 replace O:=O.far2 (c:=w.heap.size+1+1) (by omega) (.float .f64 s.1) (.float .f64 s.2)
 replace R:=R.far2 (c:=w.heap.size+1+1) (by omega) (.float .f64 s.1) (.float .f64 s.2)
 replace Y:=Y.far2 (c:=w.heap.size+1+1) (by omega) (.float .f64 s.1) (.float .f64 s.2)
 replace X:=X.put (.float .f64 s.1) (.float .f64 s.2)
 replace HB:Below w.heap.size w ((V1.setCell ⟨w.heap.size+1+1,0,none⟩ (.float .f64 s.1)).setCell ⟨w.heap.size+1+1,1,none⟩ (.float .f64 s.2)):=(HB.setCell (by simp;omega) _).setCell (by simp;omega) _
 generalize ((V1.setCell ⟨w.heap.size+1+1,0,none⟩ (.float .f64 s.1)).setCell ⟨w.heap.size+1+1,1,none⟩ (.float .f64 s.2))=V2 at *
 obtain⟨o0,o1,o2,o3,o4,o5,ol⟩:=id O
 obtain⟨g0,g1,g2,g3,g4⟩:=id X
 obtain⟨h0,h1,h2,h3,h4⟩:=id Y
 go_wp2_with (first
   | (go_at_call 38;refine (ca _).mono ?_;rintro _ w1 ⟨rfl,rfl⟩)
   | (go_at_call 42;refine (c2 _).mono ?_;rintro _ V5 ⟨rfl,hb1⟩;replace R:=R.keep hb1;replace HB:=later HB hb1;clear hb1;obtain⟨k0,k1,k2,k3,k4⟩:=id R))
 refine bodyPost_ret (v:=.tuple #[.agg #[.float .f64 p.1,.float .f64 p.2],.bool true]) (by simp [results,Tryz.results20,go_sem, *]) rfl ⟨rfl, ?_⟩;repeat' (first | (with_reducible exact HB) | (with_reducible refine Below.setCell ?_ ?_ _) | go_size)
set_option maxHeartbeats 1000000 in
theorem vl_13 (ob n:Int) (i m C xb xo:Nat) (l s:Nat×Nat) (xs:Value) (hi:i<m) (ca:∀w,Calls Tryz.prog 38 #[.int .i64 13] w fun e w'=>e=.returned (.int .i64 1)∧w=w') (w:World) (hb:xb<w.heap.size) (x0:w.cell? ⟨xb,xo+i*2,none⟩=some (.float .f64 s.1)) (x1:w.cell? ⟨xb,xo+i*2+1,none⟩=some (.float .f64 s.2)) (p:Nat×Nat) (c2:∀w,Calls Tryz.prog 43 #[.agg #[.float .f64 s.1,.float .f64 s.2]] w fun e w'=>e=.returned (.agg #[.float .f64 p.1,.float .f64 p.2])∧Below w.heap.size w w'):Calls Tryz.prog 20 #[.agg #[.int .i64 13,.int .i64 (i:Int),.int .i64 ob,.int .i64 n,.float .f64 l.1,.float .f64 l.2],.slice (some ⟨xb,xo,none⟩) m C,xs] w fun e w'=>e=.returned (.tuple #[.agg #[.float .f64 p.1,.float .f64 p.2],.bool true])∧Below w.heap.size w w':=by
 obtain⟨O,R,X,Y,HB⟩:=enterV w 13 (i:Int) ob n l _ rfl
 go_enter Tryz.func20,Tryz.ntmps20
 go_upto_region 2 with fail
 replace x0:=keepsC HB x0 hb
 replace x1:=keepsC HB x1 hb
 generalize ((((w.alloc (.cells #[.int .i64 13,.int .i64 (i:Int),.int .i64 ob,.int .i64 n,.float .f64 l.1,.float .f64 l.2] 48)).alloc (.cells #[.float .f64 0,.float .f64 0] 46)).alloc (.cells #[.float .f64 0,.float .f64 0] 46)).alloc (.cells #[.float .f64 0,.float .f64 0] 46))=V1 at *
 obtain⟨o0,o1,o2,o3,o4,o5,ol⟩:=id O
 obtain⟨p0,p1,p2,p3,p4⟩:=id X
 go_upto_region 4 with (go_at_call 38;refine (ca _).mono ?_;rintro _ w1 ⟨rfl,rfl⟩)
 clear p0 p1 p2 p3 p4 o0 o1 o2 o3 o4 o5 ol x0 x1
 replace O:=O.far2 (c:=w.heap.size+1+1) (by omega) (.float .f64 s.1) (.float .f64 s.2)
 replace R:=R.far2 (c:=w.heap.size+1+1) (by omega) (.float .f64 s.1) (.float .f64 s.2)
 replace Y:=Y.far2 (c:=w.heap.size+1+1) (by omega) (.float .f64 s.1) (.float .f64 s.2)
 replace X:=X.put (.float .f64 s.1) (.float .f64 s.2)
 replace HB:Below w.heap.size w ((V1.setCell ⟨w.heap.size+1+1,0,none⟩ (.float .f64 s.1)).setCell ⟨w.heap.size+1+1,1,none⟩ (.float .f64 s.2)):=(HB.setCell (by simp;omega) _).setCell (by simp;omega) _
 generalize ((V1.setCell ⟨w.heap.size+1+1,0,none⟩ (.float .f64 s.1)).setCell ⟨w.heap.size+1+1,1,none⟩ (.float .f64 s.2))=V2 at *
 obtain⟨o0,o1,o2,o3,o4,o5,ol⟩:=id O
 obtain⟨g0,g1,g2,g3,g4⟩:=id X
 obtain⟨h0,h1,h2,h3,h4⟩:=id Y
 go_wp2_with (first
   | (go_at_call 38;refine (ca _).mono ?_;rintro _ w1 ⟨rfl,rfl⟩)
   | (go_at_call 43;refine (c2 _).mono ?_;rintro _ V5 ⟨rfl,hb1⟩;replace R:=R.keep hb1;replace HB:=later HB hb1;clear hb1;obtain⟨k0,k1,k2,k3,k4⟩:=id R))
 refine bodyPost_ret (v:=.tuple #[.agg #[.float .f64 p.1,.float .f64 p.2],.bool true]) (by simp [results,Tryz.results20,go_sem, *]) rfl ⟨rfl, ?_⟩;repeat' (first | (with_reducible exact HB) | (with_reducible refine Below.setCell ?_ ?_ _) | go_size)
set_option maxHeartbeats 1000000 in
theorem vl_14 (ob n:Int) (i m C xb xo:Nat) (l s:Nat×Nat) (xs:Value) (hi:i<m) (ca:∀w,Calls Tryz.prog 38 #[.int .i64 14] w fun e w'=>e=.returned (.int .i64 1)∧w=w') (w:World) (hb:xb<w.heap.size) (x0:w.cell? ⟨xb,xo+i*2,none⟩=some (.float .f64 s.1)) (x1:w.cell? ⟨xb,xo+i*2+1,none⟩=some (.float .f64 s.2)) (p:Nat×Nat) (c2:∀w,Calls Tryz.prog 44 #[.agg #[.float .f64 s.1,.float .f64 s.2]] w fun e w'=>e=.returned (.agg #[.float .f64 p.1,.float .f64 p.2])∧Below w.heap.size w w'):Calls Tryz.prog 20 #[.agg #[.int .i64 14,.int .i64 (i:Int),.int .i64 ob,.int .i64 n,.float .f64 l.1,.float .f64 l.2],.slice (some ⟨xb,xo,none⟩) m C,xs] w fun e w'=>e=.returned (.tuple #[.agg #[.float .f64 p.1,.float .f64 p.2],.bool true])∧Below w.heap.size w w':=by
 obtain⟨O,R,X,Y,HB⟩:=enterV w 14 (i:Int) ob n l _ rfl
 go_enter Tryz.func20,Tryz.ntmps20
 go_upto_region 2 with fail
 replace x0:=keepsC HB x0 hb
 replace x1:=keepsC HB x1 hb
 generalize ((((w.alloc (.cells #[.int .i64 14,.int .i64 (i:Int),.int .i64 ob,.int .i64 n,.float .f64 l.1,.float .f64 l.2] 48)).alloc (.cells #[.float .f64 0,.float .f64 0] 46)).alloc (.cells #[.float .f64 0,.float .f64 0] 46)).alloc (.cells #[.float .f64 0,.float .f64 0] 46))=V1 at *
 obtain⟨o0,o1,o2,o3,o4,o5,ol⟩:=id O
 obtain⟨p0,p1,p2,p3,p4⟩:=id X
 go_upto_region 4 with (go_at_call 38;refine (ca _).mono ?_;rintro _ w1 ⟨rfl,rfl⟩)
 clear p0 p1 p2 p3 p4 o0 o1 o2 o3 o4 o5 ol x0 x1
 replace O:=O.far2 (c:=w.heap.size+1+1) (by omega) (.float .f64 s.1) (.float .f64 s.2)
 replace R:=R.far2 (c:=w.heap.size+1+1) (by omega) (.float .f64 s.1) (.float .f64 s.2)
 replace Y:=Y.far2 (c:=w.heap.size+1+1) (by omega) (.float .f64 s.1) (.float .f64 s.2)
 replace X:=X.put (.float .f64 s.1) (.float .f64 s.2)
 replace HB:Below w.heap.size w ((V1.setCell ⟨w.heap.size+1+1,0,none⟩ (.float .f64 s.1)).setCell ⟨w.heap.size+1+1,1,none⟩ (.float .f64 s.2)):=(HB.setCell (by simp;omega) _).setCell (by simp;omega) _
 generalize ((V1.setCell ⟨w.heap.size+1+1,0,none⟩ (.float .f64 s.1)).setCell ⟨w.heap.size+1+1,1,none⟩ (.float .f64 s.2))=V2 at *
 obtain⟨o0,o1,o2,o3,o4,o5,ol⟩:=id O
 obtain⟨g0,g1,g2,g3,g4⟩:=id X
 obtain⟨h0,h1,h2,h3,h4⟩:=id Y
 go_wp2_with (first
   | (go_at_call 38;refine (ca _).mono ?_;rintro _ w1 ⟨rfl,rfl⟩)
   | (go_at_call 44;refine (c2 _).mono ?_;rintro _ V5 ⟨rfl,hb1⟩;replace R:=R.keep hb1;replace HB:=later HB hb1;clear hb1;obtain⟨k0,k1,k2,k3,k4⟩:=id R))
 refine bodyPost_ret (v:=.tuple #[.agg #[.float .f64 p.1,.float .f64 p.2],.bool true]) (by simp [results,Tryz.results20,go_sem, *]) rfl ⟨rfl, ?_⟩;repeat' (first | (with_reducible exact HB) | (with_reducible refine Below.setCell ?_ ?_ _) | go_size)
end Go.Proofs.YtnchhfhoaepjnaaGreat
