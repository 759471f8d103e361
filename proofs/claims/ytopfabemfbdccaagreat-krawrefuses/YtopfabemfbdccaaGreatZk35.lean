/- An operation's operands, and its value behind those ahead: the program's way. -/
import Derived.Test.YtopfabemfbdccaaGreatZk34
import Derived.Test.YtopfabemfbdccaaGreatZk15
namespace Go.Proofs.YtopfabemfbdccaaGreat
open Go.ChangeShapes Go.WideShapes Go.ChangeAt Go.RowKit
set_option maxHeartbeats 1000000 in
theorem at_0 (k oa ob n:Int) (l:Nat×Nat) (xs:Value) (c1:∀w,Calls Tryz.prog 188 #[.int .i64 k] w fun e w'=>e=.returned (.int .i64 0)/\w=w') (w:World):Calls Tryz.prog 132 #[.agg #[.int .i64 k,.int .i64 oa,.int .i64 ob,.int .i64 n,.float .f64 l.1,.float .f64 l.2],xs] w fun e w'=>e=.returned (.tuple #[.agg #[.float .f64 0,.float .f64 0],.agg #[.float .f64 0,.float .f64 0]])/\Below w.heap.size w w':=by
 have O:HasO (((w.alloc (.cells #[.int .i64 k,.int .i64 oa,.int .i64 ob,.int .i64 n,.float .f64 l.1,.float .f64 l.2] 77)).alloc (.cells #[.float .f64 0,.float .f64 0] 24)).alloc (.cells #[.float .f64 0,.float .f64 0] 24)) w.heap.size k oa ob n l:=((hasO_new w k oa ob n l).alloc _).alloc _
 have R:Has2 (((w.alloc (.cells #[.int .i64 k,.int .i64 oa,.int .i64 ob,.int .i64 n,.float .f64 l.1,.float .f64 l.2] 77)).alloc (.cells #[.float .f64 0,.float .f64 0] 24)).alloc (.cells #[.float .f64 0,.float .f64 0] 24)) (w.heap.size+1) (.float .f64 0) (.float .f64 0):=⟨by go_simp,by go_simp,by go_simp,by go_simp,by go_size⟩
 have P:Has2 (((w.alloc (.cells #[.int .i64 k,.int .i64 oa,.int .i64 ob,.int .i64 n,.float .f64 l.1,.float .f64 l.2] 77)).alloc (.cells #[.float .f64 0,.float .f64 0] 24)).alloc (.cells #[.float .f64 0,.float .f64 0] 24)) (w.heap.size+1+1) (.float .f64 0) (.float .f64 0):=⟨by go_simp,by go_simp,by go_simp,by go_simp,by go_size⟩
 have HB:Below w.heap.size w (((w.alloc (.cells #[.int .i64 k,.int .i64 oa,.int .i64 ob,.int .i64 n,.float .f64 l.1,.float .f64 l.2] 77)).alloc (.cells #[.float .f64 0,.float .f64 0] 24)).alloc (.cells #[.float .f64 0,.float .f64 0] 24)):=by go_grown
 go_enter Tryz.func132,Tryz.ntmps132
 go_upto_region 1 with fail
 generalize (((w.alloc (.cells #[.int .i64 k,.int .i64 oa,.int .i64 ob,.int .i64 n,.float .f64 l.1,.float .f64 l.2] 77)).alloc (.cells #[.float .f64 0,.float .f64 0] 24)).alloc (.cells #[.float .f64 0,.float .f64 0] 24))=V1 at *
 obtain⟨o0,o1,o2,o3,o4,o5,ol⟩:=id O
 obtain⟨r0,r1,r2,r3,r4⟩:=id R
 obtain⟨p0,p1,p2,p3,p4⟩:=id P
 go_upto_region 6 with (go_at_call 188;refine (c1 _).mono ?_;rintro _ w1 ⟨rfl,rfl⟩)
 go_region_with fail
 all_goals go_wp2_with fail
 all_goals
  refine bodyPost_ret (v:=.tuple #[.agg #[.float .f64 0,.float .f64 0],.agg #[.float .f64 0,.float .f64 0]]) (by simp [results,Tryz.results132,go_sem, *]) rfl ⟨rfl, ?_⟩
  repeat' (first | (with_reducible exact HB) | (with_reducible refine Below.drew ?_) | (with_reducible refine Below.setCell ?_ ?_ _) | go_size)
set_option maxHeartbeats 1000000 in
theorem at_1 (k ob n:Int) (i m C xb xo:Nat) (l s:Nat×Nat) (c1:∀w,Calls Tryz.prog 188 #[.int .i64 k] w fun e w'=>e=.returned (.int .i64 1)/\w=w') (hi:i<m) (w:World) (hb:xb<w.heap.size) (x0:w.cell? ⟨xb,xo+i*2,none⟩=some (.float .f64 s.1)) (x1:w.cell? ⟨xb,xo+i*2+1,none⟩=some (.float .f64 s.2)):Calls Tryz.prog 132 #[.agg #[.int .i64 k,.int .i64 (i:Int),.int .i64 ob,.int .i64 n,.float .f64 l.1,.float .f64 l.2],.slice (some ⟨xb,xo,none⟩) m C] w fun e w'=>e=.returned (.tuple #[.agg #[.float .f64 s.1,.float .f64 s.2],.agg #[.float .f64 0,.float .f64 0]])/\Below w.heap.size w w':=by
 have O:HasO (((w.alloc (.cells #[.int .i64 k,.int .i64 (i:Int),.int .i64 ob,.int .i64 n,.float .f64 l.1,.float .f64 l.2] 77)).alloc (.cells #[.float .f64 0,.float .f64 0] 24)).alloc (.cells #[.float .f64 0,.float .f64 0] 24)) w.heap.size k (i:Int) ob n l:=((hasO_new w k (i:Int) ob n l).alloc _).alloc _
 have R:Has2 (((w.alloc (.cells #[.int .i64 k,.int .i64 (i:Int),.int .i64 ob,.int .i64 n,.float .f64 l.1,.float .f64 l.2] 77)).alloc (.cells #[.float .f64 0,.float .f64 0] 24)).alloc (.cells #[.float .f64 0,.float .f64 0] 24)) (w.heap.size+1) (.float .f64 0) (.float .f64 0):=⟨by go_simp,by go_simp,by go_simp,by go_simp,by go_size⟩
 have P:Has2 (((w.alloc (.cells #[.int .i64 k,.int .i64 (i:Int),.int .i64 ob,.int .i64 n,.float .f64 l.1,.float .f64 l.2] 77)).alloc (.cells #[.float .f64 0,.float .f64 0] 24)).alloc (.cells #[.float .f64 0,.float .f64 0] 24)) (w.heap.size+1+1) (.float .f64 0) (.float .f64 0):=⟨by go_simp,by go_simp,by go_simp,by go_simp,by go_size⟩
 have HB:Below w.heap.size w (((w.alloc (.cells #[.int .i64 k,.int .i64 (i:Int),.int .i64 ob,.int .i64 n,.float .f64 l.1,.float .f64 l.2] 77)).alloc (.cells #[.float .f64 0,.float .f64 0] 24)).alloc (.cells #[.float .f64 0,.float .f64 0] 24)):=by go_grown
 go_enter Tryz.func132,Tryz.ntmps132
 go_upto_region 1 with fail
 replace x0:=keepsC HB x0 hb
 replace x1:=keepsC HB x1 hb
 generalize (((w.alloc (.cells #[.int .i64 k,.int .i64 (i:Int),.int .i64 ob,.int .i64 n,.float .f64 l.1,.float .f64 l.2] 77)).alloc (.cells #[.float .f64 0,.float .f64 0] 24)).alloc (.cells #[.float .f64 0,.float .f64 0] 24))=V1 at *
 obtain⟨o0,o1,o2,o3,o4,o5,ol⟩:=id O
 obtain⟨r0,r1,r2,r3,r4⟩:=id R
 go_upto_region 6 with (go_at_call 188;refine (c1 _).mono ?_;rintro _ w1 ⟨rfl,rfl⟩)
 clear r0 r1 r2 r3 r4 o0 o1 o2 o3 o4 o5 ol O x0 x1
 replace R:=R.put (.float .f64 s.1) (.float .f64 s.2)
 replace P:=P.far2 (c:=w.heap.size+1) (by omega) (.float .f64 s.1) (.float .f64 s.2)
 replace HB:Below w.heap.size w ((V1.setCell ⟨w.heap.size+1,0,none⟩ (.float .f64 s.1)).setCell ⟨w.heap.size+1,1,none⟩ (.float .f64 s.2)):=(HB.setCell (by simp) _).setCell (by simp) _
 generalize ((V1.setCell ⟨w.heap.size+1,0,none⟩ (.float .f64 s.1)).setCell ⟨w.heap.size+1,1,none⟩ (.float .f64 s.2))=V2 at *
 obtain⟨r0,r1,r2,r3,r4⟩:=id R
 obtain⟨p0,p1,p2,p3,p4⟩:=id P
 go_region_with fail
 all_goals go_wp2_with fail
 all_goals
  refine bodyPost_ret (v:=.tuple #[.agg #[.float .f64 s.1,.float .f64 s.2],.agg #[.float .f64 0,.float .f64 0]]) (by simp [results,Tryz.results132,go_sem, *]) rfl ⟨rfl, ?_⟩
  repeat' (first | (with_reducible exact HB) | (with_reducible refine Below.drew ?_) | (with_reducible refine Below.setCell ?_ ?_ _) | go_size)
set_option maxHeartbeats 2000000 in
theorem at_2 (k n:Int) (i j m C xb xo:Nat) (l s u:Nat×Nat) (c1:∀w,Calls Tryz.prog 188 #[.int .i64 k] w fun e w'=>e=.returned (.int .i64 2)/\w=w') (hi:i<m) (hj:j<m) (w:World) (hb:xb<w.heap.size) (x0:w.cell? ⟨xb,xo+i*2,none⟩=some (.float .f64 s.1)) (x1:w.cell? ⟨xb,xo+i*2+1,none⟩=some (.float .f64 s.2)) (y0:w.cell? ⟨xb,xo+j*2,none⟩=some (.float .f64 u.1)) (y1:w.cell? ⟨xb,xo+j*2+1,none⟩=some (.float .f64 u.2)):Calls Tryz.prog 132 #[.agg #[.int .i64 k,.int .i64 (i:Int),.int .i64 (j:Int),.int .i64 n,.float .f64 l.1,.float .f64 l.2],.slice (some ⟨xb,xo,none⟩) m C] w fun e w'=>e=.returned (.tuple #[.agg #[.float .f64 s.1,.float .f64 s.2],.agg #[.float .f64 u.1,.float .f64 u.2]])/\Below w.heap.size w w':=by
 have O:HasO (((w.alloc (.cells #[.int .i64 k,.int .i64 (i:Int),.int .i64 (j:Int),.int .i64 n,.float .f64 l.1,.float .f64 l.2] 77)).alloc (.cells #[.float .f64 0,.float .f64 0] 24)).alloc (.cells #[.float .f64 0,.float .f64 0] 24)) w.heap.size k (i:Int) (j:Int) n l:=((hasO_new w k (i:Int) (j:Int) n l).alloc _).alloc _
 have R:Has2 (((w.alloc (.cells #[.int .i64 k,.int .i64 (i:Int),.int .i64 (j:Int),.int .i64 n,.float .f64 l.1,.float .f64 l.2] 77)).alloc (.cells #[.float .f64 0,.float .f64 0] 24)).alloc (.cells #[.float .f64 0,.float .f64 0] 24)) (w.heap.size+1) (.float .f64 0) (.float .f64 0):=⟨by go_simp,by go_simp,by go_simp,by go_simp,by go_size⟩
 have P:Has2 (((w.alloc (.cells #[.int .i64 k,.int .i64 (i:Int),.int .i64 (j:Int),.int .i64 n,.float .f64 l.1,.float .f64 l.2] 77)).alloc (.cells #[.float .f64 0,.float .f64 0] 24)).alloc (.cells #[.float .f64 0,.float .f64 0] 24)) (w.heap.size+1+1) (.float .f64 0) (.float .f64 0):=⟨by go_simp,by go_simp,by go_simp,by go_simp,by go_size⟩
 have HB:Below w.heap.size w (((w.alloc (.cells #[.int .i64 k,.int .i64 (i:Int),.int .i64 (j:Int),.int .i64 n,.float .f64 l.1,.float .f64 l.2] 77)).alloc (.cells #[.float .f64 0,.float .f64 0] 24)).alloc (.cells #[.float .f64 0,.float .f64 0] 24)):=by go_grown
 go_enter Tryz.func132,Tryz.ntmps132
 go_upto_region 1 with fail
 replace x0:=keepsC HB x0 hb
 replace x1:=keepsC HB x1 hb
 replace y0:=keepsC HB y0 hb
 replace y1:=keepsC HB y1 hb
 generalize (((w.alloc (.cells #[.int .i64 k,.int .i64 (i:Int),.int .i64 (j:Int),.int .i64 n,.float .f64 l.1,.float .f64 l.2] 77)).alloc (.cells #[.float .f64 0,.float .f64 0] 24)).alloc (.cells #[.float .f64 0,.float .f64 0] 24))=V1 at *
 obtain⟨o0,o1,o2,o3,o4,o5,ol⟩:=id O
 obtain⟨r0,r1,r2,r3,r4⟩:=id R
 obtain⟨p0,p1,p2,p3,p4⟩:=id P
 go_upto_region 5 with (go_at_call 188;refine (c1 _).mono ?_;rintro _ w1 ⟨rfl,rfl⟩)
 have ne1:xb≠w.heap.size+1:=by omega
 have ne2:xb≠w.heap.size+1+1:=by omega
 have ne3:=Ne.symm ne1
 have ne4:=Ne.symm ne2
 have ne5:w.heap.size≠w.heap.size+1:=by omega
 have ne6:w.heap.size≠w.heap.size+1+1:=by omega
 have ne7:=Ne.symm ne5
 have ne8:=Ne.symm ne6
 go_region_held3 (fun w'=>w'.cell? ⟨w.heap.size,1,none⟩=some (.int .i64 (i:Int))/\w'.cell? ⟨w.heap.size,2,none⟩=some (.int .i64 (j:Int))/\w'.cell? ⟨xb,xo+i*2,none⟩=some (.float .f64 s.1)/\w'.cell? ⟨xb,xo+i*2+1,none⟩=some (.float .f64 s.2)/\w'.cell? ⟨xb,xo+j*2,none⟩=some (.float .f64 u.1)/\w'.cell? ⟨xb,xo+j*2+1,none⟩=some (.float .f64 u.2)) (first | exact⟨o1,o2,x0,x1,y0,y1⟩ | go_keep | (simp [World.cell?_setCell_far,ne1,ne2,ne3,ne4,ne5,ne6,ne7,ne8,x0,x1,y0,y1,o1,o2])) (fail)
 all_goals
  go_upto_region 6 with fail
  clear o0 o1 o2 o3 o4 o5 ol O x0 x1 y0 y1 r0 r1 r2 r3 r4 p0 p1 p2 p3 p4
  replace P:=(P.far2 (c:=w.heap.size+1) (by omega) (.float .f64 s.1) (.float .f64 s.2)).put (.float .f64 u.1) (.float .f64 u.2)
  replace R:=(R.put (.float .f64 s.1) (.float .f64 s.2)).far2 (c:=w.heap.size+1+1) (by omega) (.float .f64 u.1) (.float .f64 u.2)
  replace HB:=(((HB.setCell (p:=⟨w.heap.size+1,0,none⟩) (by simp) (.float .f64 s.1)).setCell (p:=⟨w.heap.size+1,1,none⟩) (by simp) (.float .f64 s.2)).setCell (p:=⟨w.heap.size+1+1,0,none⟩) (by simp;omega) (.float .f64 u.1)).setCell (p:=⟨w.heap.size+1+1,1,none⟩) (by simp;omega) (.float .f64 u.2)
  replace P:=P.drew
  replace R:=R.drew
  replace HB:=HB.drew
  generalize ((((V1.setCell ⟨w.heap.size+1,0,none⟩ (.float .f64 s.1)).setCell ⟨w.heap.size+1,1,none⟩ (.float .f64 s.2)).setCell ⟨w.heap.size+1+1,0,none⟩ (.float .f64 u.1)).setCell ⟨w.heap.size+1+1,1,none⟩ (.float .f64 u.2)).drew=V2 at *
  obtain⟨r0,r1,r2,r3,r4⟩:=id R
  obtain⟨p0,p1,p2,p3,p4⟩:=id P
  go_region_with fail
 all_goals go_wp2_with fail
 all_goals
  refine bodyPost_ret (v:=.tuple #[.agg #[.float .f64 s.1,.float .f64 s.2],.agg #[.float .f64 u.1,.float .f64 u.2]]) (by simp [results,Tryz.results132,go_sem, *]) rfl ⟨rfl, ?_⟩
  repeat' (first | (with_reducible exact HB) | (with_reducible refine Below.drew ?_) | (with_reducible refine Below.setCell ?_ ?_ _) | go_size)
end Go.Proofs.YtopfabemfbdccaaGreat
