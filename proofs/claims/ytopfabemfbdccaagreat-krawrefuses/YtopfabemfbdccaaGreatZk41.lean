/- Slopes: slopeRule, kind by kind. -/
import Derived.Test.YtopfabemfbdccaaGreatZk40
import Derived.Laws.EntriesVeiled
namespace Go.Proofs.YtopfabemfbdccaaGreat
open Go.ChangeShapes Go.WideShapes Go.ChangeAt Go.RowKit
set_option maxHeartbeats 2000000 in
theorem sr_1 (x:Nat) (oa ob n:Int) (l v a b:Nat×Nat) (all sl:Value) (Da Db:Option Addr) (na Ca nb Cb m:Nat) (p:Nat×Nat) (c1:∀w,Calls Tryz.prog 55 #[.float .f64 0] w fun e w'=>e=.returned (.agg #[.float .f64 p.1,.float .f64 p.2])/\Below w.heap.size w w') (w:World) (hx:x<w.heap.size)
  (cA:∀W,Below w.heap.size w W->Calls Tryz.prog 132 #[.agg #[.int .i64 1,.int .i64 oa,.int .i64 ob,.int .i64 n,.float .f64 l.1,.float .f64 l.2],all] W fun e w'=>e=.returned (.tuple #[.agg #[.float .f64 a.1,.float .f64 a.2],.agg #[.float .f64 b.1,.float .f64 b.2]])/\Below W.heap.size W w')
  (cB:∀W,Below w.heap.size w W->Calls Tryz.prog 193 #[.agg #[.int .i64 1,.int .i64 oa,.int .i64 ob,.int .i64 n,.float .f64 l.1,.float .f64 l.2],sl] W fun e w'=>e=.returned (.tuple #[.slice Da na Ca,.slice Db nb Cb])/\Below W.heap.size W w') :
  Calls Tryz.prog 137 #[.agg #[.int .i64 1,.int .i64 oa,.int .i64 ob,.int .i64 n,.float .f64 l.1,.float .f64 l.2],.agg #[.float .f64 v.1,.float .f64 v.2],all,sl] w fun e w'=>(∃fv,e=.returned fv/\Rule x w' fv m (fun _=>p))/\Below w.heap.size w w':=by
 have O:HasO ((w.alloc (.cells #[.int .i64 1,.int .i64 oa,.int .i64 ob,.int .i64 n,.float .f64 l.1,.float .f64 l.2] 77)).alloc (.cells #[.float .f64 v.1,.float .f64 v.2] 24)) w.heap.size 1 oa ob n l:=(hasO_new w 1 oa ob n l).alloc _
 have Bv:Has2 ((w.alloc (.cells #[.int .i64 1,.int .i64 oa,.int .i64 ob,.int .i64 n,.float .f64 l.1,.float .f64 l.2] 77)).alloc (.cells #[.float .f64 v.1,.float .f64 v.2] 24)) (w.heap.size+1) (.float .f64 v.1) (.float .f64 v.2):=⟨by go_simp,by go_simp,by go_simp,by go_simp,by go_size⟩
 have HB:Below w.heap.size w ((w.alloc (.cells #[.int .i64 1,.int .i64 oa,.int .i64 ob,.int .i64 n,.float .f64 l.1,.float .f64 l.2] 77)).alloc (.cells #[.float .f64 v.1,.float .f64 v.2] 24)):=by go_grown
 go_enter Tryz.func137,Tryz.ntmps137
 go_upto_region 1 with fail
 generalize ((w.alloc (.cells #[.int .i64 1,.int .i64 oa,.int .i64 ob,.int .i64 n,.float .f64 l.1,.float .f64 l.2] 77)).alloc (.cells #[.float .f64 v.1,.float .f64 v.2] 24))=V1 at *
 obtain⟨o0,o1,o2,o3,o4,o5,ol⟩:=id O
 go_upto_region 2 with (go_at_call 132;refine (cA _ HB).mono ?_;rintro _ V2 ⟨rfl,hb1⟩;replace O:=O.keep hb1;replace Bv:=Bv.keep hb1;replace HB:=later HB hb1;clear hb1 o0 o1 o2 o3 o4 o5 ol;obtain⟨o0,o1,o2,o3,o4,o5,ol⟩:=id O)
 have zx:x<V2.heap.size:=Nat.lt_of_lt_of_le hx HB.size
 have Ba:Has2 ((V2.alloc (Obj.cells #[.float .f64 a.1,.float .f64 a.2] 24)).alloc (Obj.cells #[.float .f64 b.1,.float .f64 b.2] 24)) V2.heap.size (.float .f64 a.1) (.float .f64 a.2):=⟨by go_simp,by go_simp,by go_simp,by go_simp,by go_size⟩
 have Bb:Has2 ((V2.alloc (Obj.cells #[.float .f64 a.1,.float .f64 a.2] 24)).alloc (Obj.cells #[.float .f64 b.1,.float .f64 b.2] 24)) (V2.heap.size+1) (.float .f64 b.1) (.float .f64 b.2):=⟨by go_simp,by go_simp,by go_simp,by go_simp,by go_size⟩
 have hb1:Below V2.heap.size V2 ((V2.alloc (Obj.cells #[.float .f64 a.1,.float .f64 a.2] 24)).alloc (Obj.cells #[.float .f64 b.1,.float .f64 b.2] 24)):=by go_grown
 replace O:=O.keep hb1
 replace Bv:=Bv.keep hb1
 replace HB:=later HB hb1
 clear hb1 o0 o1 o2 o3 o4 o5 ol cA
 generalize ((V2.alloc (Obj.cells #[.float .f64 a.1,.float .f64 a.2] 24)).alloc (Obj.cells #[.float .f64 b.1,.float .f64 b.2] 24))=V3 at *
 generalize V2.heap.size=z at *
 obtain⟨o0,o1,o2,o3,o4,o5,ol⟩:=id O
 go_upto_region 3 with (go_at_call 193;refine (cB _ HB).mono ?_;rintro _ V4 ⟨rfl,hb1⟩;replace O:=O.keep hb1;replace Bv:=Bv.keep hb1;replace Ba:=Ba.keep hb1;replace Bb:=Bb.keep hb1;replace HB:=later HB hb1;clear hb1 o0 o1 o2 o3 o4 o5 ol;obtain⟨o0,o1,o2,o3,o4,o5,ol⟩:=id O)
 have yx:x<V4.heap.size:=Nat.lt_of_lt_of_le hx HB.size
 have Sa:HasI ((V4.alloc (Obj.cells #[.slice Da na Ca] 46)).alloc (Obj.cells #[.slice Db nb Cb] 46)) V4.heap.size (.slice Da na Ca):=⟨by go_simp,by go_size⟩
 have Sb:HasI ((V4.alloc (Obj.cells #[.slice Da na Ca] 46)).alloc (Obj.cells #[.slice Db nb Cb] 46)) (V4.heap.size+1) (.slice Db nb Cb):=⟨by go_simp,by go_size⟩
 have hb1:Below V4.heap.size V4 ((V4.alloc (Obj.cells #[.slice Da na Ca] 46)).alloc (Obj.cells #[.slice Db nb Cb] 46)):=by go_grown
 replace O:=O.keep hb1
 replace Bv:=Bv.keep hb1
 replace Ba:=Ba.keep hb1
 replace Bb:=Bb.keep hb1
 replace HB:=later HB hb1
 clear hb1 o0 o1 o2 o3 o4 o5 ol cB
 generalize ((V4.alloc (Obj.cells #[.slice Da na Ca] 46)).alloc (Obj.cells #[.slice Db nb Cb] 46))=V5 at *
 generalize V4.heap.size=y at *
 obtain⟨o0,o1,o2,o3,o4,o5,ol⟩:=id O
 go_wp2_with fail
 go_ret
 exact⟨⟨_,rfl,194,_,rfl,by unfold Lit;simp,fun j hj W hW=>noSlope_w _ p c1 W⟩,HB⟩
set_option maxHeartbeats 2000000 in
theorem sr_2 (x:Nat) (oa ob n:Int) (l v a b:Nat×Nat) (all sl:Value) (Da Db:Option Addr) (na Ca nb Cb m:Nat) (p q:Nat×Nat) (c1:∀w,Calls Tryz.prog 55 #[.float .f64 0] w fun e w'=>e=.returned (.agg #[.float .f64 p.1,.float .f64 p.2])/\Below w.heap.size w w') (c2:∀w,Calls Tryz.prog 55 #[.float .f64 4607182418800017408] w fun e w'=>e=.returned (.agg #[.float .f64 q.1,.float .f64 q.2])/\Below w.heap.size w w') (w:World) (hx:x<w.heap.size)
  (cA:∀W,Below w.heap.size w W->Calls Tryz.prog 132 #[.agg #[.int .i64 2,.int .i64 oa,.int .i64 ob,.int .i64 n,.float .f64 l.1,.float .f64 l.2],all] W fun e w'=>e=.returned (.tuple #[.agg #[.float .f64 a.1,.float .f64 a.2],.agg #[.float .f64 b.1,.float .f64 b.2]])/\Below W.heap.size W w')
  (cB:∀W,Below w.heap.size w W->Calls Tryz.prog 193 #[.agg #[.int .i64 2,.int .i64 oa,.int .i64 ob,.int .i64 n,.float .f64 l.1,.float .f64 l.2],sl] W fun e w'=>e=.returned (.tuple #[.slice Da na Ca,.slice Db nb Cb])/\Below W.heap.size W w') :
  Calls Tryz.prog 137 #[.agg #[.int .i64 2,.int .i64 oa,.int .i64 ob,.int .i64 n,.float .f64 l.1,.float .f64 l.2],.agg #[.float .f64 v.1,.float .f64 v.2],all,sl] w fun e w'=>(∃fv,e=.returned fv/\Rule x w' fv m (fun j=>if (j:Int)=n then q else p))/\Below w.heap.size w w':=by
 have O:HasO ((w.alloc (.cells #[.int .i64 2,.int .i64 oa,.int .i64 ob,.int .i64 n,.float .f64 l.1,.float .f64 l.2] 77)).alloc (.cells #[.float .f64 v.1,.float .f64 v.2] 24)) w.heap.size 2 oa ob n l:=(hasO_new w 2 oa ob n l).alloc _
 have Bv:Has2 ((w.alloc (.cells #[.int .i64 2,.int .i64 oa,.int .i64 ob,.int .i64 n,.float .f64 l.1,.float .f64 l.2] 77)).alloc (.cells #[.float .f64 v.1,.float .f64 v.2] 24)) (w.heap.size+1) (.float .f64 v.1) (.float .f64 v.2):=⟨by go_simp,by go_simp,by go_simp,by go_simp,by go_size⟩
 have HB:Below w.heap.size w ((w.alloc (.cells #[.int .i64 2,.int .i64 oa,.int .i64 ob,.int .i64 n,.float .f64 l.1,.float .f64 l.2] 77)).alloc (.cells #[.float .f64 v.1,.float .f64 v.2] 24)):=by go_grown
 go_enter Tryz.func137,Tryz.ntmps137
 go_upto_region 1 with fail
 generalize ((w.alloc (.cells #[.int .i64 2,.int .i64 oa,.int .i64 ob,.int .i64 n,.float .f64 l.1,.float .f64 l.2] 77)).alloc (.cells #[.float .f64 v.1,.float .f64 v.2] 24))=V1 at *
 obtain⟨o0,o1,o2,o3,o4,o5,ol⟩:=id O
 go_upto_region 2 with (go_at_call 132;refine (cA _ HB).mono ?_;rintro _ V2 ⟨rfl,hb1⟩;replace O:=O.keep hb1;replace Bv:=Bv.keep hb1;replace HB:=later HB hb1;clear hb1 o0 o1 o2 o3 o4 o5 ol;obtain⟨o0,o1,o2,o3,o4,o5,ol⟩:=id O)
 have zx:x<V2.heap.size:=Nat.lt_of_lt_of_le hx HB.size
 have Ba:Has2 ((V2.alloc (Obj.cells #[.float .f64 a.1,.float .f64 a.2] 24)).alloc (Obj.cells #[.float .f64 b.1,.float .f64 b.2] 24)) V2.heap.size (.float .f64 a.1) (.float .f64 a.2):=⟨by go_simp,by go_simp,by go_simp,by go_simp,by go_size⟩
 have Bb:Has2 ((V2.alloc (Obj.cells #[.float .f64 a.1,.float .f64 a.2] 24)).alloc (Obj.cells #[.float .f64 b.1,.float .f64 b.2] 24)) (V2.heap.size+1) (.float .f64 b.1) (.float .f64 b.2):=⟨by go_simp,by go_simp,by go_simp,by go_simp,by go_size⟩
 have hb1:Below V2.heap.size V2 ((V2.alloc (Obj.cells #[.float .f64 a.1,.float .f64 a.2] 24)).alloc (Obj.cells #[.float .f64 b.1,.float .f64 b.2] 24)):=by go_grown
 replace O:=O.keep hb1
 replace Bv:=Bv.keep hb1
 replace HB:=later HB hb1
 clear hb1 o0 o1 o2 o3 o4 o5 ol cA
 generalize ((V2.alloc (Obj.cells #[.float .f64 a.1,.float .f64 a.2] 24)).alloc (Obj.cells #[.float .f64 b.1,.float .f64 b.2] 24))=V3 at *
 generalize V2.heap.size=z at *
 obtain⟨o0,o1,o2,o3,o4,o5,ol⟩:=id O
 go_upto_region 3 with (go_at_call 193;refine (cB _ HB).mono ?_;rintro _ V4 ⟨rfl,hb1⟩;replace O:=O.keep hb1;replace Bv:=Bv.keep hb1;replace Ba:=Ba.keep hb1;replace Bb:=Bb.keep hb1;replace HB:=later HB hb1;clear hb1 o0 o1 o2 o3 o4 o5 ol;obtain⟨o0,o1,o2,o3,o4,o5,ol⟩:=id O)
 have yx:x<V4.heap.size:=Nat.lt_of_lt_of_le hx HB.size
 have Sa:HasI ((V4.alloc (Obj.cells #[.slice Da na Ca] 46)).alloc (Obj.cells #[.slice Db nb Cb] 46)) V4.heap.size (.slice Da na Ca):=⟨by go_simp,by go_size⟩
 have Sb:HasI ((V4.alloc (Obj.cells #[.slice Da na Ca] 46)).alloc (Obj.cells #[.slice Db nb Cb] 46)) (V4.heap.size+1) (.slice Db nb Cb):=⟨by go_simp,by go_size⟩
 have hb1:Below V4.heap.size V4 ((V4.alloc (Obj.cells #[.slice Da na Ca] 46)).alloc (Obj.cells #[.slice Db nb Cb] 46)):=by go_grown
 replace O:=O.keep hb1
 replace Bv:=Bv.keep hb1
 replace Ba:=Ba.keep hb1
 replace Bb:=Bb.keep hb1
 replace HB:=later HB hb1
 clear hb1 o0 o1 o2 o3 o4 o5 ol cB
 generalize ((V4.alloc (Obj.cells #[.slice Da na Ca] 46)).alloc (Obj.cells #[.slice Db nb Cb] 46))=V5 at *
 generalize V4.heap.size=y at *
 obtain⟨o0,o1,o2,o3,o4,o5,ol⟩:=id O
 go_wp2_with fail
 go_ret
 exact⟨⟨_,rfl,195,_,rfl,by unfold Lit;simp,fun j hj W hW=>cl_own j 2 oa ob n l p q c1 c2 _ W (O.ex hW (by omega))⟩,HB⟩
set_option maxHeartbeats 2000000 in
theorem sr_3 (x:Nat) (oa ob n:Int) (l v a b:Nat×Nat) (all sl:Value) (Da Db:Option Addr) (na Ca nb Cb m:Nat) (Xa Xb:Nat->Nat×Nat) (P:Nat->Nat×Nat) (ha:m<=na) (hb:m<=nb) (c1:∀j,j<m->∀w,Calls Tryz.prog 61 #[.agg #[.float .f64 (Xa j).1,.float .f64 (Xa j).2],.agg #[.float .f64 (Xb j).1,.float .f64 (Xb j).2]] w fun e w'=>e=.returned (.agg #[.float .f64 (P j).1,.float .f64 (P j).2])/\Below w.heap.size w w') (w:World) (hx:x<w.heap.size) (offa:Off Da na x) (Ua:Ivs w Da na Xa) (offb:Off Db nb x) (Ub:Ivs w Db nb Xb)
  (cA:∀W,Below w.heap.size w W->Calls Tryz.prog 132 #[.agg #[.int .i64 3,.int .i64 oa,.int .i64 ob,.int .i64 n,.float .f64 l.1,.float .f64 l.2],all] W fun e w'=>e=.returned (.tuple #[.agg #[.float .f64 a.1,.float .f64 a.2],.agg #[.float .f64 b.1,.float .f64 b.2]])/\Below W.heap.size W w')
  (cB:∀W,Below w.heap.size w W->Calls Tryz.prog 193 #[.agg #[.int .i64 3,.int .i64 oa,.int .i64 ob,.int .i64 n,.float .f64 l.1,.float .f64 l.2],sl] W fun e w'=>e=.returned (.tuple #[.slice Da na Ca,.slice Db nb Cb])/\Below W.heap.size W w') :
  Calls Tryz.prog 137 #[.agg #[.int .i64 3,.int .i64 oa,.int .i64 ob,.int .i64 n,.float .f64 l.1,.float .f64 l.2],.agg #[.float .f64 v.1,.float .f64 v.2],all,sl] w fun e w'=>(∃fv,e=.returned fv/\Rule x w' fv m P)/\Below w.heap.size w w':=by
 have O:HasO ((w.alloc (.cells #[.int .i64 3,.int .i64 oa,.int .i64 ob,.int .i64 n,.float .f64 l.1,.float .f64 l.2] 77)).alloc (.cells #[.float .f64 v.1,.float .f64 v.2] 24)) w.heap.size 3 oa ob n l:=(hasO_new w 3 oa ob n l).alloc _
 have Bv:Has2 ((w.alloc (.cells #[.int .i64 3,.int .i64 oa,.int .i64 ob,.int .i64 n,.float .f64 l.1,.float .f64 l.2] 77)).alloc (.cells #[.float .f64 v.1,.float .f64 v.2] 24)) (w.heap.size+1) (.float .f64 v.1) (.float .f64 v.2):=⟨by go_simp,by go_simp,by go_simp,by go_simp,by go_size⟩
 have HB:Below w.heap.size w ((w.alloc (.cells #[.int .i64 3,.int .i64 oa,.int .i64 ob,.int .i64 n,.float .f64 l.1,.float .f64 l.2] 77)).alloc (.cells #[.float .f64 v.1,.float .f64 v.2] 24)):=by go_grown
 go_enter Tryz.func137,Tryz.ntmps137
 go_upto_region 1 with fail
 generalize ((w.alloc (.cells #[.int .i64 3,.int .i64 oa,.int .i64 ob,.int .i64 n,.float .f64 l.1,.float .f64 l.2] 77)).alloc (.cells #[.float .f64 v.1,.float .f64 v.2] 24))=V1 at *
 obtain⟨o0,o1,o2,o3,o4,o5,ol⟩:=id O
 go_upto_region 2 with (go_at_call 132;refine (cA _ HB).mono ?_;rintro _ V2 ⟨rfl,hb1⟩;replace O:=O.keep hb1;replace Bv:=Bv.keep hb1;replace HB:=later HB hb1;clear hb1 o0 o1 o2 o3 o4 o5 ol;obtain⟨o0,o1,o2,o3,o4,o5,ol⟩:=id O)
 have zx:x<V2.heap.size:=Nat.lt_of_lt_of_le hx HB.size
 have Ba:Has2 ((V2.alloc (Obj.cells #[.float .f64 a.1,.float .f64 a.2] 24)).alloc (Obj.cells #[.float .f64 b.1,.float .f64 b.2] 24)) V2.heap.size (.float .f64 a.1) (.float .f64 a.2):=⟨by go_simp,by go_simp,by go_simp,by go_simp,by go_size⟩
 have Bb:Has2 ((V2.alloc (Obj.cells #[.float .f64 a.1,.float .f64 a.2] 24)).alloc (Obj.cells #[.float .f64 b.1,.float .f64 b.2] 24)) (V2.heap.size+1) (.float .f64 b.1) (.float .f64 b.2):=⟨by go_simp,by go_simp,by go_simp,by go_simp,by go_size⟩
 have hb1:Below V2.heap.size V2 ((V2.alloc (Obj.cells #[.float .f64 a.1,.float .f64 a.2] 24)).alloc (Obj.cells #[.float .f64 b.1,.float .f64 b.2] 24)):=by go_grown
 replace O:=O.keep hb1
 replace Bv:=Bv.keep hb1
 replace HB:=later HB hb1
 clear hb1 o0 o1 o2 o3 o4 o5 ol cA
 generalize ((V2.alloc (Obj.cells #[.float .f64 a.1,.float .f64 a.2] 24)).alloc (Obj.cells #[.float .f64 b.1,.float .f64 b.2] 24))=V3 at *
 generalize V2.heap.size=z at *
 obtain⟨o0,o1,o2,o3,o4,o5,ol⟩:=id O
 go_upto_region 3 with (go_at_call 193;refine (cB _ HB).mono ?_;rintro _ V4 ⟨rfl,hb1⟩;replace O:=O.keep hb1;replace Bv:=Bv.keep hb1;replace Ba:=Ba.keep hb1;replace Bb:=Bb.keep hb1;replace HB:=later HB hb1;clear hb1 o0 o1 o2 o3 o4 o5 ol;obtain⟨o0,o1,o2,o3,o4,o5,ol⟩:=id O)
 have yx:x<V4.heap.size:=Nat.lt_of_lt_of_le hx HB.size
 have Sa:HasI ((V4.alloc (Obj.cells #[.slice Da na Ca] 46)).alloc (Obj.cells #[.slice Db nb Cb] 46)) V4.heap.size (.slice Da na Ca):=⟨by go_simp,by go_size⟩
 have Sb:HasI ((V4.alloc (Obj.cells #[.slice Da na Ca] 46)).alloc (Obj.cells #[.slice Db nb Cb] 46)) (V4.heap.size+1) (.slice Db nb Cb):=⟨by go_simp,by go_size⟩
 have hb1:Below V4.heap.size V4 ((V4.alloc (Obj.cells #[.slice Da na Ca] 46)).alloc (Obj.cells #[.slice Db nb Cb] 46)):=by go_grown
 replace O:=O.keep hb1
 replace Bv:=Bv.keep hb1
 replace Ba:=Ba.keep hb1
 replace Bb:=Bb.keep hb1
 replace HB:=later HB hb1
 clear hb1 o0 o1 o2 o3 o4 o5 ol cB
 generalize ((V4.alloc (Obj.cells #[.slice Da na Ca] 46)).alloc (Obj.cells #[.slice Db nb Cb] 46))=V5 at *
 generalize V4.heap.size=y at *
 obtain⟨o0,o1,o2,o3,o4,o5,ol⟩:=id O
 go_wp2_with fail
 go_ret
 exact⟨⟨_,rfl,197,_,rfl,by unfold Lit;simp,fun j hj W hW=>cl_add (P j) Da na Ca Xa Db nb Cb Xb j (by omega) (by omega) (c1 j hj) _ _ W (Sa.ex hW (by omega)) ((Ua.keep HB).ex hW offa) (Sb.ex hW (by omega)) ((Ub.keep HB).ex hW offb)⟩,HB⟩
set_option maxHeartbeats 2000000 in
theorem sr_4 (x:Nat) (oa ob n:Int) (l v a b:Nat×Nat) (all sl:Value) (Da Db:Option Addr) (na Ca nb Cb m:Nat) (Xa Xb:Nat->Nat×Nat) (P:Nat->Nat×Nat) (ha:m<=na) (hb:m<=nb) (c1:∀j,j<m->∀w,Calls Tryz.prog 56 #[.agg #[.float .f64 (Xa j).1,.float .f64 (Xa j).2],.agg #[.float .f64 (Xb j).1,.float .f64 (Xb j).2]] w fun e w'=>e=.returned (.agg #[.float .f64 (P j).1,.float .f64 (P j).2])/\Below w.heap.size w w') (w:World) (hx:x<w.heap.size) (offa:Off Da na x) (Ua:Ivs w Da na Xa) (offb:Off Db nb x) (Ub:Ivs w Db nb Xb)
  (cA:∀W,Below w.heap.size w W->Calls Tryz.prog 132 #[.agg #[.int .i64 4,.int .i64 oa,.int .i64 ob,.int .i64 n,.float .f64 l.1,.float .f64 l.2],all] W fun e w'=>e=.returned (.tuple #[.agg #[.float .f64 a.1,.float .f64 a.2],.agg #[.float .f64 b.1,.float .f64 b.2]])/\Below W.heap.size W w')
  (cB:∀W,Below w.heap.size w W->Calls Tryz.prog 193 #[.agg #[.int .i64 4,.int .i64 oa,.int .i64 ob,.int .i64 n,.float .f64 l.1,.float .f64 l.2],sl] W fun e w'=>e=.returned (.tuple #[.slice Da na Ca,.slice Db nb Cb])/\Below W.heap.size W w') :
  Calls Tryz.prog 137 #[.agg #[.int .i64 4,.int .i64 oa,.int .i64 ob,.int .i64 n,.float .f64 l.1,.float .f64 l.2],.agg #[.float .f64 v.1,.float .f64 v.2],all,sl] w fun e w'=>(∃fv,e=.returned fv/\Rule x w' fv m P)/\Below w.heap.size w w':=by
 have O:HasO ((w.alloc (.cells #[.int .i64 4,.int .i64 oa,.int .i64 ob,.int .i64 n,.float .f64 l.1,.float .f64 l.2] 77)).alloc (.cells #[.float .f64 v.1,.float .f64 v.2] 24)) w.heap.size 4 oa ob n l:=(hasO_new w 4 oa ob n l).alloc _
 have Bv:Has2 ((w.alloc (.cells #[.int .i64 4,.int .i64 oa,.int .i64 ob,.int .i64 n,.float .f64 l.1,.float .f64 l.2] 77)).alloc (.cells #[.float .f64 v.1,.float .f64 v.2] 24)) (w.heap.size+1) (.float .f64 v.1) (.float .f64 v.2):=⟨by go_simp,by go_simp,by go_simp,by go_simp,by go_size⟩
 have HB:Below w.heap.size w ((w.alloc (.cells #[.int .i64 4,.int .i64 oa,.int .i64 ob,.int .i64 n,.float .f64 l.1,.float .f64 l.2] 77)).alloc (.cells #[.float .f64 v.1,.float .f64 v.2] 24)):=by go_grown
 go_enter Tryz.func137,Tryz.ntmps137
 go_upto_region 1 with fail
 generalize ((w.alloc (.cells #[.int .i64 4,.int .i64 oa,.int .i64 ob,.int .i64 n,.float .f64 l.1,.float .f64 l.2] 77)).alloc (.cells #[.float .f64 v.1,.float .f64 v.2] 24))=V1 at *
 obtain⟨o0,o1,o2,o3,o4,o5,ol⟩:=id O
 go_upto_region 2 with (go_at_call 132;refine (cA _ HB).mono ?_;rintro _ V2 ⟨rfl,hb1⟩;replace O:=O.keep hb1;replace Bv:=Bv.keep hb1;replace HB:=later HB hb1;clear hb1 o0 o1 o2 o3 o4 o5 ol;obtain⟨o0,o1,o2,o3,o4,o5,ol⟩:=id O)
 have zx:x<V2.heap.size:=Nat.lt_of_lt_of_le hx HB.size
 have Ba:Has2 ((V2.alloc (Obj.cells #[.float .f64 a.1,.float .f64 a.2] 24)).alloc (Obj.cells #[.float .f64 b.1,.float .f64 b.2] 24)) V2.heap.size (.float .f64 a.1) (.float .f64 a.2):=⟨by go_simp,by go_simp,by go_simp,by go_simp,by go_size⟩
 have Bb:Has2 ((V2.alloc (Obj.cells #[.float .f64 a.1,.float .f64 a.2] 24)).alloc (Obj.cells #[.float .f64 b.1,.float .f64 b.2] 24)) (V2.heap.size+1) (.float .f64 b.1) (.float .f64 b.2):=⟨by go_simp,by go_simp,by go_simp,by go_simp,by go_size⟩
 have hb1:Below V2.heap.size V2 ((V2.alloc (Obj.cells #[.float .f64 a.1,.float .f64 a.2] 24)).alloc (Obj.cells #[.float .f64 b.1,.float .f64 b.2] 24)):=by go_grown
 replace O:=O.keep hb1
 replace Bv:=Bv.keep hb1
 replace HB:=later HB hb1
 clear hb1 o0 o1 o2 o3 o4 o5 ol cA
 generalize ((V2.alloc (Obj.cells #[.float .f64 a.1,.float .f64 a.2] 24)).alloc (Obj.cells #[.float .f64 b.1,.float .f64 b.2] 24))=V3 at *
 generalize V2.heap.size=z at *
 obtain⟨o0,o1,o2,o3,o4,o5,ol⟩:=id O
 go_upto_region 3 with (go_at_call 193;refine (cB _ HB).mono ?_;rintro _ V4 ⟨rfl,hb1⟩;replace O:=O.keep hb1;replace Bv:=Bv.keep hb1;replace Ba:=Ba.keep hb1;replace Bb:=Bb.keep hb1;replace HB:=later HB hb1;clear hb1 o0 o1 o2 o3 o4 o5 ol;obtain⟨o0,o1,o2,o3,o4,o5,ol⟩:=id O)
 have yx:x<V4.heap.size:=Nat.lt_of_lt_of_le hx HB.size
 have Sa:HasI ((V4.alloc (Obj.cells #[.slice Da na Ca] 46)).alloc (Obj.cells #[.slice Db nb Cb] 46)) V4.heap.size (.slice Da na Ca):=⟨by go_simp,by go_size⟩
 have Sb:HasI ((V4.alloc (Obj.cells #[.slice Da na Ca] 46)).alloc (Obj.cells #[.slice Db nb Cb] 46)) (V4.heap.size+1) (.slice Db nb Cb):=⟨by go_simp,by go_size⟩
 have hb1:Below V4.heap.size V4 ((V4.alloc (Obj.cells #[.slice Da na Ca] 46)).alloc (Obj.cells #[.slice Db nb Cb] 46)):=by go_grown
 replace O:=O.keep hb1
 replace Bv:=Bv.keep hb1
 replace Ba:=Ba.keep hb1
 replace Bb:=Bb.keep hb1
 replace HB:=later HB hb1
 clear hb1 o0 o1 o2 o3 o4 o5 ol cB
 generalize ((V4.alloc (Obj.cells #[.slice Da na Ca] 46)).alloc (Obj.cells #[.slice Db nb Cb] 46))=V5 at *
 generalize V4.heap.size=y at *
 obtain⟨o0,o1,o2,o3,o4,o5,ol⟩:=id O
 go_wp2_with fail
 go_ret
 exact⟨⟨_,rfl,198,_,rfl,by unfold Lit;simp,fun j hj W hW=>cl_sub (P j) Da na Ca Xa Db nb Cb Xb j (by omega) (by omega) (c1 j hj) _ _ W (Sa.ex hW (by omega)) ((Ua.keep HB).ex hW offa) (Sb.ex hW (by omega)) ((Ub.keep HB).ex hW offb)⟩,HB⟩
set_option maxHeartbeats 2000000 in
theorem sr_5 (x:Nat) (oa ob n:Int) (l v a b:Nat×Nat) (all sl:Value) (Da Db:Option Addr) (na Ca nb Cb m:Nat) (Xa Xb:Nat->Nat×Nat) (P Q R:Nat->Nat×Nat) (ha:m<=na) (hb:m<=nb) (c1:∀j,j<m->∀w,Calls Tryz.prog 54 #[.agg #[.float .f64 (Xa j).1,.float .f64 (Xa j).2],.agg #[.float .f64 b.1,.float .f64 b.2]] w fun e w'=>e=.returned (.agg #[.float .f64 (P j).1,.float .f64 (P j).2])/\Below w.heap.size w w') (c2:∀j,j<m->∀w,Calls Tryz.prog 54 #[.agg #[.float .f64 a.1,.float .f64 a.2],.agg #[.float .f64 (Xb j).1,.float .f64 (Xb j).2]] w fun e w'=>e=.returned (.agg #[.float .f64 (Q j).1,.float .f64 (Q j).2])/\Below w.heap.size w w') (c3:∀j,j<m->∀w,Calls Tryz.prog 61 #[.agg #[.float .f64 (P j).1,.float .f64 (P j).2],.agg #[.float .f64 (Q j).1,.float .f64 (Q j).2]] w fun e w'=>e=.returned (.agg #[.float .f64 (R j).1,.float .f64 (R j).2])/\Below w.heap.size w w') (w:World) (hx:x<w.heap.size) (offa:Off Da na x) (Ua:Ivs w Da na Xa) (offb:Off Db nb x) (Ub:Ivs w Db nb Xb)
  (cA:∀W,Below w.heap.size w W->Calls Tryz.prog 132 #[.agg #[.int .i64 5,.int .i64 oa,.int .i64 ob,.int .i64 n,.float .f64 l.1,.float .f64 l.2],all] W fun e w'=>e=.returned (.tuple #[.agg #[.float .f64 a.1,.float .f64 a.2],.agg #[.float .f64 b.1,.float .f64 b.2]])/\Below W.heap.size W w')
  (cB:∀W,Below w.heap.size w W->Calls Tryz.prog 193 #[.agg #[.int .i64 5,.int .i64 oa,.int .i64 ob,.int .i64 n,.float .f64 l.1,.float .f64 l.2],sl] W fun e w'=>e=.returned (.tuple #[.slice Da na Ca,.slice Db nb Cb])/\Below W.heap.size W w') :
  Calls Tryz.prog 137 #[.agg #[.int .i64 5,.int .i64 oa,.int .i64 ob,.int .i64 n,.float .f64 l.1,.float .f64 l.2],.agg #[.float .f64 v.1,.float .f64 v.2],all,sl] w fun e w'=>(∃fv,e=.returned fv/\Rule x w' fv m R)/\Below w.heap.size w w':=by
 have O:HasO ((w.alloc (.cells #[.int .i64 5,.int .i64 oa,.int .i64 ob,.int .i64 n,.float .f64 l.1,.float .f64 l.2] 77)).alloc (.cells #[.float .f64 v.1,.float .f64 v.2] 24)) w.heap.size 5 oa ob n l:=(hasO_new w 5 oa ob n l).alloc _
 have Bv:Has2 ((w.alloc (.cells #[.int .i64 5,.int .i64 oa,.int .i64 ob,.int .i64 n,.float .f64 l.1,.float .f64 l.2] 77)).alloc (.cells #[.float .f64 v.1,.float .f64 v.2] 24)) (w.heap.size+1) (.float .f64 v.1) (.float .f64 v.2):=⟨by go_simp,by go_simp,by go_simp,by go_simp,by go_size⟩
 have HB:Below w.heap.size w ((w.alloc (.cells #[.int .i64 5,.int .i64 oa,.int .i64 ob,.int .i64 n,.float .f64 l.1,.float .f64 l.2] 77)).alloc (.cells #[.float .f64 v.1,.float .f64 v.2] 24)):=by go_grown
 go_enter Tryz.func137,Tryz.ntmps137
 go_upto_region 1 with fail
 generalize ((w.alloc (.cells #[.int .i64 5,.int .i64 oa,.int .i64 ob,.int .i64 n,.float .f64 l.1,.float .f64 l.2] 77)).alloc (.cells #[.float .f64 v.1,.float .f64 v.2] 24))=V1 at *
 obtain⟨o0,o1,o2,o3,o4,o5,ol⟩:=id O
 go_upto_region 2 with (go_at_call 132;refine (cA _ HB).mono ?_;rintro _ V2 ⟨rfl,hb1⟩;replace O:=O.keep hb1;replace Bv:=Bv.keep hb1;replace HB:=later HB hb1;clear hb1 o0 o1 o2 o3 o4 o5 ol;obtain⟨o0,o1,o2,o3,o4,o5,ol⟩:=id O)
 have zx:x<V2.heap.size:=Nat.lt_of_lt_of_le hx HB.size
 have Ba:Has2 ((V2.alloc (Obj.cells #[.float .f64 a.1,.float .f64 a.2] 24)).alloc (Obj.cells #[.float .f64 b.1,.float .f64 b.2] 24)) V2.heap.size (.float .f64 a.1) (.float .f64 a.2):=⟨by go_simp,by go_simp,by go_simp,by go_simp,by go_size⟩
 have Bb:Has2 ((V2.alloc (Obj.cells #[.float .f64 a.1,.float .f64 a.2] 24)).alloc (Obj.cells #[.float .f64 b.1,.float .f64 b.2] 24)) (V2.heap.size+1) (.float .f64 b.1) (.float .f64 b.2):=⟨by go_simp,by go_simp,by go_simp,by go_simp,by go_size⟩
 have hb1:Below V2.heap.size V2 ((V2.alloc (Obj.cells #[.float .f64 a.1,.float .f64 a.2] 24)).alloc (Obj.cells #[.float .f64 b.1,.float .f64 b.2] 24)):=by go_grown
 replace O:=O.keep hb1
 replace Bv:=Bv.keep hb1
 replace HB:=later HB hb1
 clear hb1 o0 o1 o2 o3 o4 o5 ol cA
 generalize ((V2.alloc (Obj.cells #[.float .f64 a.1,.float .f64 a.2] 24)).alloc (Obj.cells #[.float .f64 b.1,.float .f64 b.2] 24))=V3 at *
 generalize V2.heap.size=z at *
 obtain⟨o0,o1,o2,o3,o4,o5,ol⟩:=id O
 go_upto_region 3 with (go_at_call 193;refine (cB _ HB).mono ?_;rintro _ V4 ⟨rfl,hb1⟩;replace O:=O.keep hb1;replace Bv:=Bv.keep hb1;replace Ba:=Ba.keep hb1;replace Bb:=Bb.keep hb1;replace HB:=later HB hb1;clear hb1 o0 o1 o2 o3 o4 o5 ol;obtain⟨o0,o1,o2,o3,o4,o5,ol⟩:=id O)
 have yx:x<V4.heap.size:=Nat.lt_of_lt_of_le hx HB.size
 have Sa:HasI ((V4.alloc (Obj.cells #[.slice Da na Ca] 46)).alloc (Obj.cells #[.slice Db nb Cb] 46)) V4.heap.size (.slice Da na Ca):=⟨by go_simp,by go_size⟩
 have Sb:HasI ((V4.alloc (Obj.cells #[.slice Da na Ca] 46)).alloc (Obj.cells #[.slice Db nb Cb] 46)) (V4.heap.size+1) (.slice Db nb Cb):=⟨by go_simp,by go_size⟩
 have hb1:Below V4.heap.size V4 ((V4.alloc (Obj.cells #[.slice Da na Ca] 46)).alloc (Obj.cells #[.slice Db nb Cb] 46)):=by go_grown
 replace O:=O.keep hb1
 replace Bv:=Bv.keep hb1
 replace Ba:=Ba.keep hb1
 replace Bb:=Bb.keep hb1
 replace HB:=later HB hb1
 clear hb1 o0 o1 o2 o3 o4 o5 ol cB
 generalize ((V4.alloc (Obj.cells #[.slice Da na Ca] 46)).alloc (Obj.cells #[.slice Db nb Cb] 46))=V5 at *
 generalize V4.heap.size=y at *
 obtain⟨o0,o1,o2,o3,o4,o5,ol⟩:=id O
 go_wp2_with fail
 go_ret
 exact⟨⟨_,rfl,199,_,rfl,by unfold Lit;simp,fun j hj W hW=>cl_prod b a (P j) (Q j) (R j) Da na Ca Xa Db nb Cb Xb j (by omega) (by omega) (c1 j hj) (c2 j hj) (c3 j hj) _ _ _ _ W (Sa.ex hW (by omega)) ((Ua.keep HB).ex hW offa) (Bb.ex hW (by omega)) (Ba.ex hW (by omega)) (Sb.ex hW (by omega)) ((Ub.keep HB).ex hW offb)⟩,HB⟩
set_option maxHeartbeats 2000000 in
theorem sr_6 (x:Nat) (oa ob n:Int) (l v a b:Nat×Nat) (all sl:Value) (Da Db:Option Addr) (na Ca nb Cb m:Nat) (Xa Xb:Nat->Nat×Nat) (P Q R:Nat->Nat×Nat) (ha:m<=na) (hb:m<=nb) (c1:∀j,j<m->∀w,Calls Tryz.prog 54 #[.agg #[.float .f64 v.1,.float .f64 v.2],.agg #[.float .f64 (Xb j).1,.float .f64 (Xb j).2]] w fun e w'=>e=.returned (.agg #[.float .f64 (P j).1,.float .f64 (P j).2])/\Below w.heap.size w w') (c2:∀j,j<m->∀w,Calls Tryz.prog 56 #[.agg #[.float .f64 (Xa j).1,.float .f64 (Xa j).2],.agg #[.float .f64 (P j).1,.float .f64 (P j).2]] w fun e w'=>e=.returned (.agg #[.float .f64 (Q j).1,.float .f64 (Q j).2])/\Below w.heap.size w w') (c3:∀j,j<m->∀w,Calls Tryz.prog 50 #[.agg #[.float .f64 (Q j).1,.float .f64 (Q j).2],.agg #[.float .f64 b.1,.float .f64 b.2]] w fun e w'=>e=.returned (.agg #[.float .f64 (R j).1,.float .f64 (R j).2])/\Below w.heap.size w w') (w:World) (hx:x<w.heap.size) (offa:Off Da na x) (Ua:Ivs w Da na Xa) (offb:Off Db nb x) (Ub:Ivs w Db nb Xb)
  (cA:∀W,Below w.heap.size w W->Calls Tryz.prog 132 #[.agg #[.int .i64 6,.int .i64 oa,.int .i64 ob,.int .i64 n,.float .f64 l.1,.float .f64 l.2],all] W fun e w'=>e=.returned (.tuple #[.agg #[.float .f64 a.1,.float .f64 a.2],.agg #[.float .f64 b.1,.float .f64 b.2]])/\Below W.heap.size W w')
  (cB:∀W,Below w.heap.size w W->Calls Tryz.prog 193 #[.agg #[.int .i64 6,.int .i64 oa,.int .i64 ob,.int .i64 n,.float .f64 l.1,.float .f64 l.2],sl] W fun e w'=>e=.returned (.tuple #[.slice Da na Ca,.slice Db nb Cb])/\Below W.heap.size W w') :
  Calls Tryz.prog 137 #[.agg #[.int .i64 6,.int .i64 oa,.int .i64 ob,.int .i64 n,.float .f64 l.1,.float .f64 l.2],.agg #[.float .f64 v.1,.float .f64 v.2],all,sl] w fun e w'=>(∃fv,e=.returned fv/\Rule x w' fv m R)/\Below w.heap.size w w':=by
 have O:HasO ((w.alloc (.cells #[.int .i64 6,.int .i64 oa,.int .i64 ob,.int .i64 n,.float .f64 l.1,.float .f64 l.2] 77)).alloc (.cells #[.float .f64 v.1,.float .f64 v.2] 24)) w.heap.size 6 oa ob n l:=(hasO_new w 6 oa ob n l).alloc _
 have Bv:Has2 ((w.alloc (.cells #[.int .i64 6,.int .i64 oa,.int .i64 ob,.int .i64 n,.float .f64 l.1,.float .f64 l.2] 77)).alloc (.cells #[.float .f64 v.1,.float .f64 v.2] 24)) (w.heap.size+1) (.float .f64 v.1) (.float .f64 v.2):=⟨by go_simp,by go_simp,by go_simp,by go_simp,by go_size⟩
 have HB:Below w.heap.size w ((w.alloc (.cells #[.int .i64 6,.int .i64 oa,.int .i64 ob,.int .i64 n,.float .f64 l.1,.float .f64 l.2] 77)).alloc (.cells #[.float .f64 v.1,.float .f64 v.2] 24)):=by go_grown
 go_enter Tryz.func137,Tryz.ntmps137
 go_upto_region 1 with fail
 generalize ((w.alloc (.cells #[.int .i64 6,.int .i64 oa,.int .i64 ob,.int .i64 n,.float .f64 l.1,.float .f64 l.2] 77)).alloc (.cells #[.float .f64 v.1,.float .f64 v.2] 24))=V1 at *
 obtain⟨o0,o1,o2,o3,o4,o5,ol⟩:=id O
 go_upto_region 2 with (go_at_call 132;refine (cA _ HB).mono ?_;rintro _ V2 ⟨rfl,hb1⟩;replace O:=O.keep hb1;replace Bv:=Bv.keep hb1;replace HB:=later HB hb1;clear hb1 o0 o1 o2 o3 o4 o5 ol;obtain⟨o0,o1,o2,o3,o4,o5,ol⟩:=id O)
 have zx:x<V2.heap.size:=Nat.lt_of_lt_of_le hx HB.size
 have Ba:Has2 ((V2.alloc (Obj.cells #[.float .f64 a.1,.float .f64 a.2] 24)).alloc (Obj.cells #[.float .f64 b.1,.float .f64 b.2] 24)) V2.heap.size (.float .f64 a.1) (.float .f64 a.2):=⟨by go_simp,by go_simp,by go_simp,by go_simp,by go_size⟩
 have Bb:Has2 ((V2.alloc (Obj.cells #[.float .f64 a.1,.float .f64 a.2] 24)).alloc (Obj.cells #[.float .f64 b.1,.float .f64 b.2] 24)) (V2.heap.size+1) (.float .f64 b.1) (.float .f64 b.2):=⟨by go_simp,by go_simp,by go_simp,by go_simp,by go_size⟩
 have hb1:Below V2.heap.size V2 ((V2.alloc (Obj.cells #[.float .f64 a.1,.float .f64 a.2] 24)).alloc (Obj.cells #[.float .f64 b.1,.float .f64 b.2] 24)):=by go_grown
 replace O:=O.keep hb1
 replace Bv:=Bv.keep hb1
 replace HB:=later HB hb1
 clear hb1 o0 o1 o2 o3 o4 o5 ol cA
 generalize ((V2.alloc (Obj.cells #[.float .f64 a.1,.float .f64 a.2] 24)).alloc (Obj.cells #[.float .f64 b.1,.float .f64 b.2] 24))=V3 at *
 generalize V2.heap.size=z at *
 obtain⟨o0,o1,o2,o3,o4,o5,ol⟩:=id O
 go_upto_region 3 with (go_at_call 193;refine (cB _ HB).mono ?_;rintro _ V4 ⟨rfl,hb1⟩;replace O:=O.keep hb1;replace Bv:=Bv.keep hb1;replace Ba:=Ba.keep hb1;replace Bb:=Bb.keep hb1;replace HB:=later HB hb1;clear hb1 o0 o1 o2 o3 o4 o5 ol;obtain⟨o0,o1,o2,o3,o4,o5,ol⟩:=id O)
 have yx:x<V4.heap.size:=Nat.lt_of_lt_of_le hx HB.size
 have Sa:HasI ((V4.alloc (Obj.cells #[.slice Da na Ca] 46)).alloc (Obj.cells #[.slice Db nb Cb] 46)) V4.heap.size (.slice Da na Ca):=⟨by go_simp,by go_size⟩
 have Sb:HasI ((V4.alloc (Obj.cells #[.slice Da na Ca] 46)).alloc (Obj.cells #[.slice Db nb Cb] 46)) (V4.heap.size+1) (.slice Db nb Cb):=⟨by go_simp,by go_size⟩
 have hb1:Below V4.heap.size V4 ((V4.alloc (Obj.cells #[.slice Da na Ca] 46)).alloc (Obj.cells #[.slice Db nb Cb] 46)):=by go_grown
 replace O:=O.keep hb1
 replace Bv:=Bv.keep hb1
 replace Ba:=Ba.keep hb1
 replace Bb:=Bb.keep hb1
 replace HB:=later HB hb1
 clear hb1 o0 o1 o2 o3 o4 o5 ol cB
 generalize ((V4.alloc (Obj.cells #[.slice Da na Ca] 46)).alloc (Obj.cells #[.slice Db nb Cb] 46))=V5 at *
 generalize V4.heap.size=y at *
 obtain⟨o0,o1,o2,o3,o4,o5,ol⟩:=id O
 go_wp2_with fail
 go_ret
 exact⟨⟨_,rfl,200,_,rfl,by unfold Lit;simp,fun j hj W hW=>cl_quot v b (P j) (Q j) (R j) Da na Ca Xa Db nb Cb Xb j (by omega) (by omega) (c1 j hj) (c2 j hj) (c3 j hj) _ _ _ _ W (Sa.ex hW (by omega)) ((Ua.keep HB).ex hW offa) (Bv.ex hW (by omega)) (Sb.ex hW (by omega)) ((Ub.keep HB).ex hW offb) (Bb.ex hW (by omega))⟩,HB⟩
set_option maxHeartbeats 2000000 in
theorem sr_7 (x:Nat) (oa ob n:Int) (l v a b:Nat×Nat) (all sl:Value) (Da Db:Option Addr) (na Ca nb Cb m:Nat) (Xa:Nat->Nat×Nat) (P:Nat->Nat×Nat) (ha:m<=na) (c1:∀j,j<m->∀w,Calls Tryz.prog 57 #[.agg #[.float .f64 (Xa j).1,.float .f64 (Xa j).2]] w fun e w'=>e=.returned (.agg #[.float .f64 (P j).1,.float .f64 (P j).2])/\Below w.heap.size w w') (w:World) (hx:x<w.heap.size) (offa:Off Da na x) (Ua:Ivs w Da na Xa)
  (cA:∀W,Below w.heap.size w W->Calls Tryz.prog 132 #[.agg #[.int .i64 7,.int .i64 oa,.int .i64 ob,.int .i64 n,.float .f64 l.1,.float .f64 l.2],all] W fun e w'=>e=.returned (.tuple #[.agg #[.float .f64 a.1,.float .f64 a.2],.agg #[.float .f64 b.1,.float .f64 b.2]])/\Below W.heap.size W w')
  (cB:∀W,Below w.heap.size w W->Calls Tryz.prog 193 #[.agg #[.int .i64 7,.int .i64 oa,.int .i64 ob,.int .i64 n,.float .f64 l.1,.float .f64 l.2],sl] W fun e w'=>e=.returned (.tuple #[.slice Da na Ca,.slice Db nb Cb])/\Below W.heap.size W w') :
  Calls Tryz.prog 137 #[.agg #[.int .i64 7,.int .i64 oa,.int .i64 ob,.int .i64 n,.float .f64 l.1,.float .f64 l.2],.agg #[.float .f64 v.1,.float .f64 v.2],all,sl] w fun e w'=>(∃fv,e=.returned fv/\Rule x w' fv m P)/\Below w.heap.size w w':=by
 have O:HasO ((w.alloc (.cells #[.int .i64 7,.int .i64 oa,.int .i64 ob,.int .i64 n,.float .f64 l.1,.float .f64 l.2] 77)).alloc (.cells #[.float .f64 v.1,.float .f64 v.2] 24)) w.heap.size 7 oa ob n l:=(hasO_new w 7 oa ob n l).alloc _
 have Bv:Has2 ((w.alloc (.cells #[.int .i64 7,.int .i64 oa,.int .i64 ob,.int .i64 n,.float .f64 l.1,.float .f64 l.2] 77)).alloc (.cells #[.float .f64 v.1,.float .f64 v.2] 24)) (w.heap.size+1) (.float .f64 v.1) (.float .f64 v.2):=⟨by go_simp,by go_simp,by go_simp,by go_simp,by go_size⟩
 have HB:Below w.heap.size w ((w.alloc (.cells #[.int .i64 7,.int .i64 oa,.int .i64 ob,.int .i64 n,.float .f64 l.1,.float .f64 l.2] 77)).alloc (.cells #[.float .f64 v.1,.float .f64 v.2] 24)):=by go_grown
 go_enter Tryz.func137,Tryz.ntmps137
 go_upto_region 1 with fail
 generalize ((w.alloc (.cells #[.int .i64 7,.int .i64 oa,.int .i64 ob,.int .i64 n,.float .f64 l.1,.float .f64 l.2] 77)).alloc (.cells #[.float .f64 v.1,.float .f64 v.2] 24))=V1 at *
 obtain⟨o0,o1,o2,o3,o4,o5,ol⟩:=id O
 go_upto_region 2 with (go_at_call 132;refine (cA _ HB).mono ?_;rintro _ V2 ⟨rfl,hb1⟩;replace O:=O.keep hb1;replace Bv:=Bv.keep hb1;replace HB:=later HB hb1;clear hb1 o0 o1 o2 o3 o4 o5 ol;obtain⟨o0,o1,o2,o3,o4,o5,ol⟩:=id O)
 have zx:x<V2.heap.size:=Nat.lt_of_lt_of_le hx HB.size
 have Ba:Has2 ((V2.alloc (Obj.cells #[.float .f64 a.1,.float .f64 a.2] 24)).alloc (Obj.cells #[.float .f64 b.1,.float .f64 b.2] 24)) V2.heap.size (.float .f64 a.1) (.float .f64 a.2):=⟨by go_simp,by go_simp,by go_simp,by go_simp,by go_size⟩
 have Bb:Has2 ((V2.alloc (Obj.cells #[.float .f64 a.1,.float .f64 a.2] 24)).alloc (Obj.cells #[.float .f64 b.1,.float .f64 b.2] 24)) (V2.heap.size+1) (.float .f64 b.1) (.float .f64 b.2):=⟨by go_simp,by go_simp,by go_simp,by go_simp,by go_size⟩
 have hb1:Below V2.heap.size V2 ((V2.alloc (Obj.cells #[.float .f64 a.1,.float .f64 a.2] 24)).alloc (Obj.cells #[.float .f64 b.1,.float .f64 b.2] 24)):=by go_grown
 replace O:=O.keep hb1
 replace Bv:=Bv.keep hb1
 replace HB:=later HB hb1
 clear hb1 o0 o1 o2 o3 o4 o5 ol cA
 generalize ((V2.alloc (Obj.cells #[.float .f64 a.1,.float .f64 a.2] 24)).alloc (Obj.cells #[.float .f64 b.1,.float .f64 b.2] 24))=V3 at *
 generalize V2.heap.size=z at *
 obtain⟨o0,o1,o2,o3,o4,o5,ol⟩:=id O
 go_upto_region 3 with (go_at_call 193;refine (cB _ HB).mono ?_;rintro _ V4 ⟨rfl,hb1⟩;replace O:=O.keep hb1;replace Bv:=Bv.keep hb1;replace Ba:=Ba.keep hb1;replace Bb:=Bb.keep hb1;replace HB:=later HB hb1;clear hb1 o0 o1 o2 o3 o4 o5 ol;obtain⟨o0,o1,o2,o3,o4,o5,ol⟩:=id O)
 have yx:x<V4.heap.size:=Nat.lt_of_lt_of_le hx HB.size
 have Sa:HasI ((V4.alloc (Obj.cells #[.slice Da na Ca] 46)).alloc (Obj.cells #[.slice Db nb Cb] 46)) V4.heap.size (.slice Da na Ca):=⟨by go_simp,by go_size⟩
 have Sb:HasI ((V4.alloc (Obj.cells #[.slice Da na Ca] 46)).alloc (Obj.cells #[.slice Db nb Cb] 46)) (V4.heap.size+1) (.slice Db nb Cb):=⟨by go_simp,by go_size⟩
 have hb1:Below V4.heap.size V4 ((V4.alloc (Obj.cells #[.slice Da na Ca] 46)).alloc (Obj.cells #[.slice Db nb Cb] 46)):=by go_grown
 replace O:=O.keep hb1
 replace Bv:=Bv.keep hb1
 replace Ba:=Ba.keep hb1
 replace Bb:=Bb.keep hb1
 replace HB:=later HB hb1
 clear hb1 o0 o1 o2 o3 o4 o5 ol cB
 generalize ((V4.alloc (Obj.cells #[.slice Da na Ca] 46)).alloc (Obj.cells #[.slice Db nb Cb] 46))=V5 at *
 generalize V4.heap.size=y at *
 obtain⟨o0,o1,o2,o3,o4,o5,ol⟩:=id O
 go_wp2_with fail
 go_ret
 exact⟨⟨_,rfl,201,_,rfl,by unfold Lit;simp,fun j hj W hW=>cl_neg (P j) Da na Ca Xa j (by omega) (c1 j hj) _ W (Sa.ex hW (by omega)) ((Ua.keep HB).ex hW offa)⟩,HB⟩
set_option maxHeartbeats 2000000 in
theorem sr_8 (x:Nat) (oa ob n:Int) (l v a b:Nat×Nat) (all sl:Value) (Da Db:Option Addr) (na Ca nb Cb m:Nat) (P:Nat->Nat×Nat) (w:World) (hx:x<w.heap.size)  (cp:∀W,Below w.heap.size w W->Calls Tryz.prog 202 #[.agg #[.float .f64 a.1,.float .f64 a.2],.int .i64 n,.slice Da na Ca] W fun e w'=>(∃fv,e=.returned fv/\Rule x w' fv m P)/\Below W.heap.size W w')
  (cA:∀W,Below w.heap.size w W->Calls Tryz.prog 132 #[.agg #[.int .i64 8,.int .i64 oa,.int .i64 ob,.int .i64 n,.float .f64 l.1,.float .f64 l.2],all] W fun e w'=>e=.returned (.tuple #[.agg #[.float .f64 a.1,.float .f64 a.2],.agg #[.float .f64 b.1,.float .f64 b.2]])/\Below W.heap.size W w')
  (cB:∀W,Below w.heap.size w W->Calls Tryz.prog 193 #[.agg #[.int .i64 8,.int .i64 oa,.int .i64 ob,.int .i64 n,.float .f64 l.1,.float .f64 l.2],sl] W fun e w'=>e=.returned (.tuple #[.slice Da na Ca,.slice Db nb Cb])/\Below W.heap.size W w') :
  Calls Tryz.prog 137 #[.agg #[.int .i64 8,.int .i64 oa,.int .i64 ob,.int .i64 n,.float .f64 l.1,.float .f64 l.2],.agg #[.float .f64 v.1,.float .f64 v.2],all,sl] w fun e w'=>(∃fv,e=.returned fv/\Rule x w' fv m P)/\Below w.heap.size w w':=by
 have O:HasO ((w.alloc (.cells #[.int .i64 8,.int .i64 oa,.int .i64 ob,.int .i64 n,.float .f64 l.1,.float .f64 l.2] 77)).alloc (.cells #[.float .f64 v.1,.float .f64 v.2] 24)) w.heap.size 8 oa ob n l:=(hasO_new w 8 oa ob n l).alloc _
 have Bv:Has2 ((w.alloc (.cells #[.int .i64 8,.int .i64 oa,.int .i64 ob,.int .i64 n,.float .f64 l.1,.float .f64 l.2] 77)).alloc (.cells #[.float .f64 v.1,.float .f64 v.2] 24)) (w.heap.size+1) (.float .f64 v.1) (.float .f64 v.2):=⟨by go_simp,by go_simp,by go_simp,by go_simp,by go_size⟩
 have HB:Below w.heap.size w ((w.alloc (.cells #[.int .i64 8,.int .i64 oa,.int .i64 ob,.int .i64 n,.float .f64 l.1,.float .f64 l.2] 77)).alloc (.cells #[.float .f64 v.1,.float .f64 v.2] 24)):=by go_grown
 go_enter Tryz.func137,Tryz.ntmps137
 go_upto_region 1 with fail
 generalize ((w.alloc (.cells #[.int .i64 8,.int .i64 oa,.int .i64 ob,.int .i64 n,.float .f64 l.1,.float .f64 l.2] 77)).alloc (.cells #[.float .f64 v.1,.float .f64 v.2] 24))=V1 at *
 obtain⟨o0,o1,o2,o3,o4,o5,ol⟩:=id O
 go_upto_region 2 with (go_at_call 132;refine (cA _ HB).mono ?_;rintro _ V2 ⟨rfl,hb1⟩;replace O:=O.keep hb1;replace Bv:=Bv.keep hb1;replace HB:=later HB hb1;clear hb1 o0 o1 o2 o3 o4 o5 ol;obtain⟨o0,o1,o2,o3,o4,o5,ol⟩:=id O)
 have zx:x<V2.heap.size:=Nat.lt_of_lt_of_le hx HB.size
 have Ba:Has2 ((V2.alloc (Obj.cells #[.float .f64 a.1,.float .f64 a.2] 24)).alloc (Obj.cells #[.float .f64 b.1,.float .f64 b.2] 24)) V2.heap.size (.float .f64 a.1) (.float .f64 a.2):=⟨by go_simp,by go_simp,by go_simp,by go_simp,by go_size⟩
 have Bb:Has2 ((V2.alloc (Obj.cells #[.float .f64 a.1,.float .f64 a.2] 24)).alloc (Obj.cells #[.float .f64 b.1,.float .f64 b.2] 24)) (V2.heap.size+1) (.float .f64 b.1) (.float .f64 b.2):=⟨by go_simp,by go_simp,by go_simp,by go_simp,by go_size⟩
 have hb1:Below V2.heap.size V2 ((V2.alloc (Obj.cells #[.float .f64 a.1,.float .f64 a.2] 24)).alloc (Obj.cells #[.float .f64 b.1,.float .f64 b.2] 24)):=by go_grown
 replace O:=O.keep hb1
 replace Bv:=Bv.keep hb1
 replace HB:=later HB hb1
 clear hb1 o0 o1 o2 o3 o4 o5 ol cA
 generalize ((V2.alloc (Obj.cells #[.float .f64 a.1,.float .f64 a.2] 24)).alloc (Obj.cells #[.float .f64 b.1,.float .f64 b.2] 24))=V3 at *
 generalize V2.heap.size=z at *
 obtain⟨o0,o1,o2,o3,o4,o5,ol⟩:=id O
 go_upto_region 3 with (go_at_call 193;refine (cB _ HB).mono ?_;rintro _ V4 ⟨rfl,hb1⟩;replace O:=O.keep hb1;replace Bv:=Bv.keep hb1;replace Ba:=Ba.keep hb1;replace Bb:=Bb.keep hb1;replace HB:=later HB hb1;clear hb1 o0 o1 o2 o3 o4 o5 ol;obtain⟨o0,o1,o2,o3,o4,o5,ol⟩:=id O)
 have yx:x<V4.heap.size:=Nat.lt_of_lt_of_le hx HB.size
 have Sa:HasI ((V4.alloc (Obj.cells #[.slice Da na Ca] 46)).alloc (Obj.cells #[.slice Db nb Cb] 46)) V4.heap.size (.slice Da na Ca):=⟨by go_simp,by go_size⟩
 have Sb:HasI ((V4.alloc (Obj.cells #[.slice Da na Ca] 46)).alloc (Obj.cells #[.slice Db nb Cb] 46)) (V4.heap.size+1) (.slice Db nb Cb):=⟨by go_simp,by go_size⟩
 have hb1:Below V4.heap.size V4 ((V4.alloc (Obj.cells #[.slice Da na Ca] 46)).alloc (Obj.cells #[.slice Db nb Cb] 46)):=by go_grown
 replace O:=O.keep hb1
 replace Bv:=Bv.keep hb1
 replace Ba:=Ba.keep hb1
 replace Bb:=Bb.keep hb1
 replace HB:=later HB hb1
 clear hb1 o0 o1 o2 o3 o4 o5 ol cB
 generalize ((V4.alloc (Obj.cells #[.slice Da na Ca] 46)).alloc (Obj.cells #[.slice Db nb Cb] 46))=V5 at *
 generalize V4.heap.size=y at *
 obtain⟨o0,o1,o2,o3,o4,o5,ol⟩:=id O
 obtain⟨a0,a1,a2,a3,a4⟩:=id Ba
 obtain⟨s0,s1⟩:=id Sa
 go_wp2_with (go_at_call 202;refine (cp _ HB).mono ?_;rintro _ V6 ⟨⟨fv,rfl,hR⟩,hb6⟩;replace HB:=later HB hb6)
 go_ret
 exact⟨⟨_,rfl,hR⟩,HB⟩
set_option maxHeartbeats 2000000 in
theorem sr_9 (x:Nat) (oa ob n:Int) (l v a b:Nat×Nat) (all sl:Value) (Da Db:Option Addr) (na Ca nb Cb:Nat) (Xa:Nat->Nat×Nat) (P:Nat->Nat×Nat) (p q:Nat×Nat) (c1:∀w,Calls Tryz.prog 55 #[.float .f64 4611686018427387904] w fun e w'=>e=.returned (.agg #[.float .f64 p.1,.float .f64 p.2])/\Below w.heap.size w w') (c2:∀w,Calls Tryz.prog 54 #[.agg #[.float .f64 p.1,.float .f64 p.2],.agg #[.float .f64 v.1,.float .f64 v.2]] w fun e w'=>e=.returned (.agg #[.float .f64 q.1,.float .f64 q.2])/\Below w.heap.size w w') (hp:∀j,j<na->∀w,Calls Tryz.prog 50 #[.agg #[.float .f64 (Xa j).1,.float .f64 (Xa j).2],.agg #[.float .f64 q.1,.float .f64 q.2]] w fun e w'=>e=.returned (.agg #[.float .f64 (P j).1,.float .f64 (P j).2])/\Below w.heap.size w w') (w:World) (hx:x<w.heap.size) (offa:Off Da na x) (Ua:Ivs w Da na Xa)
  (cA:∀W,Below w.heap.size w W->Calls Tryz.prog 132 #[.agg #[.int .i64 9,.int .i64 oa,.int .i64 ob,.int .i64 n,.float .f64 l.1,.float .f64 l.2],all] W fun e w'=>e=.returned (.tuple #[.agg #[.float .f64 a.1,.float .f64 a.2],.agg #[.float .f64 b.1,.float .f64 b.2]])/\Below W.heap.size W w')
  (cB:∀W,Below w.heap.size w W->Calls Tryz.prog 193 #[.agg #[.int .i64 9,.int .i64 oa,.int .i64 ob,.int .i64 n,.float .f64 l.1,.float .f64 l.2],sl] W fun e w'=>e=.returned (.tuple #[.slice Da na Ca,.slice Db nb Cb])/\Below W.heap.size W w') :
  Calls Tryz.prog 137 #[.agg #[.int .i64 9,.int .i64 oa,.int .i64 ob,.int .i64 n,.float .f64 l.1,.float .f64 l.2],.agg #[.float .f64 v.1,.float .f64 v.2],all,sl] w fun e w'=>(∃fv,e=.returned fv/\Rule x w' fv na P)/\Below w.heap.size w w':=by
 have O:HasO ((w.alloc (.cells #[.int .i64 9,.int .i64 oa,.int .i64 ob,.int .i64 n,.float .f64 l.1,.float .f64 l.2] 77)).alloc (.cells #[.float .f64 v.1,.float .f64 v.2] 24)) w.heap.size 9 oa ob n l:=(hasO_new w 9 oa ob n l).alloc _
 have Bv:Has2 ((w.alloc (.cells #[.int .i64 9,.int .i64 oa,.int .i64 ob,.int .i64 n,.float .f64 l.1,.float .f64 l.2] 77)).alloc (.cells #[.float .f64 v.1,.float .f64 v.2] 24)) (w.heap.size+1) (.float .f64 v.1) (.float .f64 v.2):=⟨by go_simp,by go_simp,by go_simp,by go_simp,by go_size⟩
 have HB:Below w.heap.size w ((w.alloc (.cells #[.int .i64 9,.int .i64 oa,.int .i64 ob,.int .i64 n,.float .f64 l.1,.float .f64 l.2] 77)).alloc (.cells #[.float .f64 v.1,.float .f64 v.2] 24)):=by go_grown
 go_enter Tryz.func137,Tryz.ntmps137
 go_upto_region 1 with fail
 generalize ((w.alloc (.cells #[.int .i64 9,.int .i64 oa,.int .i64 ob,.int .i64 n,.float .f64 l.1,.float .f64 l.2] 77)).alloc (.cells #[.float .f64 v.1,.float .f64 v.2] 24))=V1 at *
 obtain⟨o0,o1,o2,o3,o4,o5,ol⟩:=id O
 go_upto_region 2 with (go_at_call 132;refine (cA _ HB).mono ?_;rintro _ V2 ⟨rfl,hb1⟩;replace O:=O.keep hb1;replace Bv:=Bv.keep hb1;replace HB:=later HB hb1;clear hb1 o0 o1 o2 o3 o4 o5 ol;obtain⟨o0,o1,o2,o3,o4,o5,ol⟩:=id O)
 have zx:x<V2.heap.size:=Nat.lt_of_lt_of_le hx HB.size
 have Ba:Has2 ((V2.alloc (Obj.cells #[.float .f64 a.1,.float .f64 a.2] 24)).alloc (Obj.cells #[.float .f64 b.1,.float .f64 b.2] 24)) V2.heap.size (.float .f64 a.1) (.float .f64 a.2):=⟨by go_simp,by go_simp,by go_simp,by go_simp,by go_size⟩
 have Bb:Has2 ((V2.alloc (Obj.cells #[.float .f64 a.1,.float .f64 a.2] 24)).alloc (Obj.cells #[.float .f64 b.1,.float .f64 b.2] 24)) (V2.heap.size+1) (.float .f64 b.1) (.float .f64 b.2):=⟨by go_simp,by go_simp,by go_simp,by go_simp,by go_size⟩
 have hb1:Below V2.heap.size V2 ((V2.alloc (Obj.cells #[.float .f64 a.1,.float .f64 a.2] 24)).alloc (Obj.cells #[.float .f64 b.1,.float .f64 b.2] 24)):=by go_grown
 replace O:=O.keep hb1
 replace Bv:=Bv.keep hb1
 replace HB:=later HB hb1
 clear hb1 o0 o1 o2 o3 o4 o5 ol cA
 generalize ((V2.alloc (Obj.cells #[.float .f64 a.1,.float .f64 a.2] 24)).alloc (Obj.cells #[.float .f64 b.1,.float .f64 b.2] 24))=V3 at *
 generalize V2.heap.size=z at *
 obtain⟨o0,o1,o2,o3,o4,o5,ol⟩:=id O
 go_upto_region 3 with (go_at_call 193;refine (cB _ HB).mono ?_;rintro _ V4 ⟨rfl,hb1⟩;replace O:=O.keep hb1;replace Bv:=Bv.keep hb1;replace Ba:=Ba.keep hb1;replace Bb:=Bb.keep hb1;replace HB:=later HB hb1;clear hb1 o0 o1 o2 o3 o4 o5 ol;obtain⟨o0,o1,o2,o3,o4,o5,ol⟩:=id O)
 have yx:x<V4.heap.size:=Nat.lt_of_lt_of_le hx HB.size
 have Sa:HasI ((V4.alloc (Obj.cells #[.slice Da na Ca] 46)).alloc (Obj.cells #[.slice Db nb Cb] 46)) V4.heap.size (.slice Da na Ca):=⟨by go_simp,by go_size⟩
 have Sb:HasI ((V4.alloc (Obj.cells #[.slice Da na Ca] 46)).alloc (Obj.cells #[.slice Db nb Cb] 46)) (V4.heap.size+1) (.slice Db nb Cb):=⟨by go_simp,by go_size⟩
 have hb1:Below V4.heap.size V4 ((V4.alloc (Obj.cells #[.slice Da na Ca] 46)).alloc (Obj.cells #[.slice Db nb Cb] 46)):=by go_grown
 replace O:=O.keep hb1
 replace Bv:=Bv.keep hb1
 replace Ba:=Ba.keep hb1
 replace Bb:=Bb.keep hb1
 replace HB:=later HB hb1
 clear hb1 o0 o1 o2 o3 o4 o5 ol cB
 generalize ((V4.alloc (Obj.cells #[.slice Da na Ca] 46)).alloc (Obj.cells #[.slice Db nb Cb] 46))=V5 at *
 generalize V4.heap.size=y at *
 obtain⟨o0,o1,o2,o3,o4,o5,ol⟩:=id O
 go_upto_region 21 with fail
 have kS:=fun n:Behind V5=>n.cell Sa.1 Sa.2
 have kv0:=fun n:Behind V5=>n.cell Bv.1 Bv.2.2.2.2
 have kv1:=fun n:Behind V5=>n.cell Bv.2.1 Bv.2.2.2.2
 refine tail_behind 4 (by kernel_rfl) (by kernel_rfl) ?_
 simp only [List.take_succ_cons,List.take_zero,List.drop_succ_cons,List.drop_zero]
 repeat (go_big_quiet_step (first | (go_at_call 55;with_reducible refine Behind.call (c1 _)) | (go_at_call 54;with_reducible refine Behind.call (c2 _))))
 refine wpQuiet_nil ?_
 rintro _ ⟨m',rfl⟩
 obtain⟨W,hb1⟩:=m'
 dsimp only
 replace HB:=later HB hb1
 go_wp2_with (go_at_call 203;refine (divd_w x q Da na Ca Xa P hp _ (Nat.lt_of_lt_of_le hx HB.size) offa (Ua.keep HB)).mono ?_;rintro _ V6 ⟨⟨fv,rfl,hR⟩,hb6⟩;replace HB:=later HB hb6)
 go_ret
 exact⟨⟨_,rfl,hR⟩,HB⟩
set_option maxHeartbeats 2000000 in
theorem sr_10 (x:Nat) (oa ob n:Int) (l v a b:Nat×Nat) (all sl:Value) (Da Db:Option Addr) (na Ca nb Cb:Nat) (Xa:Nat->Nat×Nat) (P:Nat->Nat×Nat) (hp:∀j,j<na->∀w,Calls Tryz.prog 54 #[.agg #[.float .f64 v.1,.float .f64 v.2],.agg #[.float .f64 (Xa j).1,.float .f64 (Xa j).2]] w fun e w'=>e=.returned (.agg #[.float .f64 (P j).1,.float .f64 (P j).2])/\Below w.heap.size w w') (w:World) (hx:x<w.heap.size) (offa:Off Da na x) (Ua:Ivs w Da na Xa)
  (cA:∀W,Below w.heap.size w W->Calls Tryz.prog 132 #[.agg #[.int .i64 10,.int .i64 oa,.int .i64 ob,.int .i64 n,.float .f64 l.1,.float .f64 l.2],all] W fun e w'=>e=.returned (.tuple #[.agg #[.float .f64 a.1,.float .f64 a.2],.agg #[.float .f64 b.1,.float .f64 b.2]])/\Below W.heap.size W w')
  (cB:∀W,Below w.heap.size w W->Calls Tryz.prog 193 #[.agg #[.int .i64 10,.int .i64 oa,.int .i64 ob,.int .i64 n,.float .f64 l.1,.float .f64 l.2],sl] W fun e w'=>e=.returned (.tuple #[.slice Da na Ca,.slice Db nb Cb])/\Below W.heap.size W w') :
  Calls Tryz.prog 137 #[.agg #[.int .i64 10,.int .i64 oa,.int .i64 ob,.int .i64 n,.float .f64 l.1,.float .f64 l.2],.agg #[.float .f64 v.1,.float .f64 v.2],all,sl] w fun e w'=>(∃fv,e=.returned fv/\Rule x w' fv na P)/\Below w.heap.size w w':=by
 have O:HasO ((w.alloc (.cells #[.int .i64 10,.int .i64 oa,.int .i64 ob,.int .i64 n,.float .f64 l.1,.float .f64 l.2] 77)).alloc (.cells #[.float .f64 v.1,.float .f64 v.2] 24)) w.heap.size 10 oa ob n l:=(hasO_new w 10 oa ob n l).alloc _
 have Bv:Has2 ((w.alloc (.cells #[.int .i64 10,.int .i64 oa,.int .i64 ob,.int .i64 n,.float .f64 l.1,.float .f64 l.2] 77)).alloc (.cells #[.float .f64 v.1,.float .f64 v.2] 24)) (w.heap.size+1) (.float .f64 v.1) (.float .f64 v.2):=⟨by go_simp,by go_simp,by go_simp,by go_simp,by go_size⟩
 have HB:Below w.heap.size w ((w.alloc (.cells #[.int .i64 10,.int .i64 oa,.int .i64 ob,.int .i64 n,.float .f64 l.1,.float .f64 l.2] 77)).alloc (.cells #[.float .f64 v.1,.float .f64 v.2] 24)):=by go_grown
 go_enter Tryz.func137,Tryz.ntmps137
 go_upto_region 1 with fail
 generalize ((w.alloc (.cells #[.int .i64 10,.int .i64 oa,.int .i64 ob,.int .i64 n,.float .f64 l.1,.float .f64 l.2] 77)).alloc (.cells #[.float .f64 v.1,.float .f64 v.2] 24))=V1 at *
 obtain⟨o0,o1,o2,o3,o4,o5,ol⟩:=id O
 go_upto_region 2 with (go_at_call 132;refine (cA _ HB).mono ?_;rintro _ V2 ⟨rfl,hb1⟩;replace O:=O.keep hb1;replace Bv:=Bv.keep hb1;replace HB:=later HB hb1;clear hb1 o0 o1 o2 o3 o4 o5 ol;obtain⟨o0,o1,o2,o3,o4,o5,ol⟩:=id O)
 have zx:x<V2.heap.size:=Nat.lt_of_lt_of_le hx HB.size
 have Ba:Has2 ((V2.alloc (Obj.cells #[.float .f64 a.1,.float .f64 a.2] 24)).alloc (Obj.cells #[.float .f64 b.1,.float .f64 b.2] 24)) V2.heap.size (.float .f64 a.1) (.float .f64 a.2):=⟨by go_simp,by go_simp,by go_simp,by go_simp,by go_size⟩
 have Bb:Has2 ((V2.alloc (Obj.cells #[.float .f64 a.1,.float .f64 a.2] 24)).alloc (Obj.cells #[.float .f64 b.1,.float .f64 b.2] 24)) (V2.heap.size+1) (.float .f64 b.1) (.float .f64 b.2):=⟨by go_simp,by go_simp,by go_simp,by go_simp,by go_size⟩
 have hb1:Below V2.heap.size V2 ((V2.alloc (Obj.cells #[.float .f64 a.1,.float .f64 a.2] 24)).alloc (Obj.cells #[.float .f64 b.1,.float .f64 b.2] 24)):=by go_grown
 replace O:=O.keep hb1
 replace Bv:=Bv.keep hb1
 replace HB:=later HB hb1
 clear hb1 o0 o1 o2 o3 o4 o5 ol cA
 generalize ((V2.alloc (Obj.cells #[.float .f64 a.1,.float .f64 a.2] 24)).alloc (Obj.cells #[.float .f64 b.1,.float .f64 b.2] 24))=V3 at *
 generalize V2.heap.size=z at *
 obtain⟨o0,o1,o2,o3,o4,o5,ol⟩:=id O
 go_upto_region 3 with (go_at_call 193;refine (cB _ HB).mono ?_;rintro _ V4 ⟨rfl,hb1⟩;replace O:=O.keep hb1;replace Bv:=Bv.keep hb1;replace Ba:=Ba.keep hb1;replace Bb:=Bb.keep hb1;replace HB:=later HB hb1;clear hb1 o0 o1 o2 o3 o4 o5 ol;obtain⟨o0,o1,o2,o3,o4,o5,ol⟩:=id O)
 have yx:x<V4.heap.size:=Nat.lt_of_lt_of_le hx HB.size
 have Sa:HasI ((V4.alloc (Obj.cells #[.slice Da na Ca] 46)).alloc (Obj.cells #[.slice Db nb Cb] 46)) V4.heap.size (.slice Da na Ca):=⟨by go_simp,by go_size⟩
 have Sb:HasI ((V4.alloc (Obj.cells #[.slice Da na Ca] 46)).alloc (Obj.cells #[.slice Db nb Cb] 46)) (V4.heap.size+1) (.slice Db nb Cb):=⟨by go_simp,by go_size⟩
 have hb1:Below V4.heap.size V4 ((V4.alloc (Obj.cells #[.slice Da na Ca] 46)).alloc (Obj.cells #[.slice Db nb Cb] 46)):=by go_grown
 replace O:=O.keep hb1
 replace Bv:=Bv.keep hb1
 replace Ba:=Ba.keep hb1
 replace Bb:=Bb.keep hb1
 replace HB:=later HB hb1
 clear hb1 o0 o1 o2 o3 o4 o5 ol cB
 generalize ((V4.alloc (Obj.cells #[.slice Da na Ca] 46)).alloc (Obj.cells #[.slice Db nb Cb] 46))=V5 at *
 generalize V4.heap.size=y at *
 obtain⟨o0,o1,o2,o3,o4,o5,ol⟩:=id O
 obtain⟨a0,a1,a2,a3,a4⟩:=id Bv
 obtain⟨s0,s1⟩:=id Sa
 go_wp2_with (go_at_call 204;refine (mult_w x v Da na Ca Xa P hp _ (Nat.lt_of_lt_of_le hx HB.size) offa (Ua.keep HB)).mono ?_;rintro _ V6 ⟨⟨fv,rfl,hR⟩,hb6⟩;replace HB:=later HB hb6)
 go_ret
 exact⟨⟨_,rfl,hR.rule⟩,HB⟩
set_option maxHeartbeats 2000000 in
theorem sr_11 (x:Nat) (oa ob n:Int) (l v a b:Nat×Nat) (all sl:Value) (Da Db:Option Addr) (na Ca nb Cb:Nat) (Xa:Nat->Nat×Nat) (P:Nat->Nat×Nat) (hp:∀j,j<na->∀w,Calls Tryz.prog 50 #[.agg #[.float .f64 (Xa j).1,.float .f64 (Xa j).2],.agg #[.float .f64 a.1,.float .f64 a.2]] w fun e w'=>e=.returned (.agg #[.float .f64 (P j).1,.float .f64 (P j).2])/\Below w.heap.size w w') (w:World) (hx:x<w.heap.size) (offa:Off Da na x) (Ua:Ivs w Da na Xa)
  (cA:∀W,Below w.heap.size w W->Calls Tryz.prog 132 #[.agg #[.int .i64 11,.int .i64 oa,.int .i64 ob,.int .i64 n,.float .f64 l.1,.float .f64 l.2],all] W fun e w'=>e=.returned (.tuple #[.agg #[.float .f64 a.1,.float .f64 a.2],.agg #[.float .f64 b.1,.float .f64 b.2]])/\Below W.heap.size W w')
  (cB:∀W,Below w.heap.size w W->Calls Tryz.prog 193 #[.agg #[.int .i64 11,.int .i64 oa,.int .i64 ob,.int .i64 n,.float .f64 l.1,.float .f64 l.2],sl] W fun e w'=>e=.returned (.tuple #[.slice Da na Ca,.slice Db nb Cb])/\Below W.heap.size W w') :
  Calls Tryz.prog 137 #[.agg #[.int .i64 11,.int .i64 oa,.int .i64 ob,.int .i64 n,.float .f64 l.1,.float .f64 l.2],.agg #[.float .f64 v.1,.float .f64 v.2],all,sl] w fun e w'=>(∃fv,e=.returned fv/\Rule x w' fv na P)/\Below w.heap.size w w':=by
 have O:HasO ((w.alloc (.cells #[.int .i64 11,.int .i64 oa,.int .i64 ob,.int .i64 n,.float .f64 l.1,.float .f64 l.2] 77)).alloc (.cells #[.float .f64 v.1,.float .f64 v.2] 24)) w.heap.size 11 oa ob n l:=(hasO_new w 11 oa ob n l).alloc _
 have Bv:Has2 ((w.alloc (.cells #[.int .i64 11,.int .i64 oa,.int .i64 ob,.int .i64 n,.float .f64 l.1,.float .f64 l.2] 77)).alloc (.cells #[.float .f64 v.1,.float .f64 v.2] 24)) (w.heap.size+1) (.float .f64 v.1) (.float .f64 v.2):=⟨by go_simp,by go_simp,by go_simp,by go_simp,by go_size⟩
 have HB:Below w.heap.size w ((w.alloc (.cells #[.int .i64 11,.int .i64 oa,.int .i64 ob,.int .i64 n,.float .f64 l.1,.float .f64 l.2] 77)).alloc (.cells #[.float .f64 v.1,.float .f64 v.2] 24)):=by go_grown
 go_enter Tryz.func137,Tryz.ntmps137
 go_upto_region 1 with fail
 generalize ((w.alloc (.cells #[.int .i64 11,.int .i64 oa,.int .i64 ob,.int .i64 n,.float .f64 l.1,.float .f64 l.2] 77)).alloc (.cells #[.float .f64 v.1,.float .f64 v.2] 24))=V1 at *
 obtain⟨o0,o1,o2,o3,o4,o5,ol⟩:=id O
 go_upto_region 2 with (go_at_call 132;refine (cA _ HB).mono ?_;rintro _ V2 ⟨rfl,hb1⟩;replace O:=O.keep hb1;replace Bv:=Bv.keep hb1;replace HB:=later HB hb1;clear hb1 o0 o1 o2 o3 o4 o5 ol;obtain⟨o0,o1,o2,o3,o4,o5,ol⟩:=id O)
 have zx:x<V2.heap.size:=Nat.lt_of_lt_of_le hx HB.size
 have Ba:Has2 ((V2.alloc (Obj.cells #[.float .f64 a.1,.float .f64 a.2] 24)).alloc (Obj.cells #[.float .f64 b.1,.float .f64 b.2] 24)) V2.heap.size (.float .f64 a.1) (.float .f64 a.2):=⟨by go_simp,by go_simp,by go_simp,by go_simp,by go_size⟩
 have Bb:Has2 ((V2.alloc (Obj.cells #[.float .f64 a.1,.float .f64 a.2] 24)).alloc (Obj.cells #[.float .f64 b.1,.float .f64 b.2] 24)) (V2.heap.size+1) (.float .f64 b.1) (.float .f64 b.2):=⟨by go_simp,by go_simp,by go_simp,by go_simp,by go_size⟩
 have hb1:Below V2.heap.size V2 ((V2.alloc (Obj.cells #[.float .f64 a.1,.float .f64 a.2] 24)).alloc (Obj.cells #[.float .f64 b.1,.float .f64 b.2] 24)):=by go_grown
 replace O:=O.keep hb1
 replace Bv:=Bv.keep hb1
 replace HB:=later HB hb1
 clear hb1 o0 o1 o2 o3 o4 o5 ol cA
 generalize ((V2.alloc (Obj.cells #[.float .f64 a.1,.float .f64 a.2] 24)).alloc (Obj.cells #[.float .f64 b.1,.float .f64 b.2] 24))=V3 at *
 generalize V2.heap.size=z at *
 obtain⟨o0,o1,o2,o3,o4,o5,ol⟩:=id O
 go_upto_region 3 with (go_at_call 193;refine (cB _ HB).mono ?_;rintro _ V4 ⟨rfl,hb1⟩;replace O:=O.keep hb1;replace Bv:=Bv.keep hb1;replace Ba:=Ba.keep hb1;replace Bb:=Bb.keep hb1;replace HB:=later HB hb1;clear hb1 o0 o1 o2 o3 o4 o5 ol;obtain⟨o0,o1,o2,o3,o4,o5,ol⟩:=id O)
 have yx:x<V4.heap.size:=Nat.lt_of_lt_of_le hx HB.size
 have Sa:HasI ((V4.alloc (Obj.cells #[.slice Da na Ca] 46)).alloc (Obj.cells #[.slice Db nb Cb] 46)) V4.heap.size (.slice Da na Ca):=⟨by go_simp,by go_size⟩
 have Sb:HasI ((V4.alloc (Obj.cells #[.slice Da na Ca] 46)).alloc (Obj.cells #[.slice Db nb Cb] 46)) (V4.heap.size+1) (.slice Db nb Cb):=⟨by go_simp,by go_size⟩
 have hb1:Below V4.heap.size V4 ((V4.alloc (Obj.cells #[.slice Da na Ca] 46)).alloc (Obj.cells #[.slice Db nb Cb] 46)):=by go_grown
 replace O:=O.keep hb1
 replace Bv:=Bv.keep hb1
 replace Ba:=Ba.keep hb1
 replace Bb:=Bb.keep hb1
 replace HB:=later HB hb1
 clear hb1 o0 o1 o2 o3 o4 o5 ol cB
 generalize ((V4.alloc (Obj.cells #[.slice Da na Ca] 46)).alloc (Obj.cells #[.slice Db nb Cb] 46))=V5 at *
 generalize V4.heap.size=y at *
 obtain⟨o0,o1,o2,o3,o4,o5,ol⟩:=id O
 obtain⟨a0,a1,a2,a3,a4⟩:=id Ba
 obtain⟨s0,s1⟩:=id Sa
 go_wp2_with (go_at_call 203;refine (divd_w x a Da na Ca Xa P hp _ (Nat.lt_of_lt_of_le hx HB.size) offa (Ua.keep HB)).mono ?_;rintro _ V6 ⟨⟨fv,rfl,hR⟩,hb6⟩;replace HB:=later HB hb6)
 go_ret
 exact⟨⟨_,rfl,hR⟩,HB⟩
set_option maxHeartbeats 2000000 in
theorem sr_12 (x:Nat) (oa ob n:Int) (l v a b:Nat×Nat) (all sl:Value) (Da Db:Option Addr) (na Ca nb Cb:Nat) (Xa:Nat->Nat×Nat) (P:Nat->Nat×Nat) (q:Nat×Nat) (c1:∀w,Calls Tryz.prog 19 #[.agg #[.float .f64 a.1,.float .f64 a.2]] w fun e w'=>e=.returned (.agg #[.float .f64 q.1,.float .f64 q.2])/\Below w.heap.size w w') (hp:∀j,j<na->∀w,Calls Tryz.prog 54 #[.agg #[.float .f64 q.1,.float .f64 q.2],.agg #[.float .f64 (Xa j).1,.float .f64 (Xa j).2]] w fun e w'=>e=.returned (.agg #[.float .f64 (P j).1,.float .f64 (P j).2])/\Below w.heap.size w w') (w:World) (hx:x<w.heap.size) (offa:Off Da na x) (Ua:Ivs w Da na Xa)
  (cA:∀W,Below w.heap.size w W->Calls Tryz.prog 132 #[.agg #[.int .i64 12,.int .i64 oa,.int .i64 ob,.int .i64 n,.float .f64 l.1,.float .f64 l.2],all] W fun e w'=>e=.returned (.tuple #[.agg #[.float .f64 a.1,.float .f64 a.2],.agg #[.float .f64 b.1,.float .f64 b.2]])/\Below W.heap.size W w')
  (cB:∀W,Below w.heap.size w W->Calls Tryz.prog 193 #[.agg #[.int .i64 12,.int .i64 oa,.int .i64 ob,.int .i64 n,.float .f64 l.1,.float .f64 l.2],sl] W fun e w'=>e=.returned (.tuple #[.slice Da na Ca,.slice Db nb Cb])/\Below W.heap.size W w') :
  Calls Tryz.prog 137 #[.agg #[.int .i64 12,.int .i64 oa,.int .i64 ob,.int .i64 n,.float .f64 l.1,.float .f64 l.2],.agg #[.float .f64 v.1,.float .f64 v.2],all,sl] w fun e w'=>(∃fv,e=.returned fv/\Rule x w' fv na P)/\Below w.heap.size w w':=by
 have O:HasO ((w.alloc (.cells #[.int .i64 12,.int .i64 oa,.int .i64 ob,.int .i64 n,.float .f64 l.1,.float .f64 l.2] 77)).alloc (.cells #[.float .f64 v.1,.float .f64 v.2] 24)) w.heap.size 12 oa ob n l:=(hasO_new w 12 oa ob n l).alloc _
 have Bv:Has2 ((w.alloc (.cells #[.int .i64 12,.int .i64 oa,.int .i64 ob,.int .i64 n,.float .f64 l.1,.float .f64 l.2] 77)).alloc (.cells #[.float .f64 v.1,.float .f64 v.2] 24)) (w.heap.size+1) (.float .f64 v.1) (.float .f64 v.2):=⟨by go_simp,by go_simp,by go_simp,by go_simp,by go_size⟩
 have HB:Below w.heap.size w ((w.alloc (.cells #[.int .i64 12,.int .i64 oa,.int .i64 ob,.int .i64 n,.float .f64 l.1,.float .f64 l.2] 77)).alloc (.cells #[.float .f64 v.1,.float .f64 v.2] 24)):=by go_grown
 go_enter Tryz.func137,Tryz.ntmps137
 go_upto_region 1 with fail
 generalize ((w.alloc (.cells #[.int .i64 12,.int .i64 oa,.int .i64 ob,.int .i64 n,.float .f64 l.1,.float .f64 l.2] 77)).alloc (.cells #[.float .f64 v.1,.float .f64 v.2] 24))=V1 at *
 obtain⟨o0,o1,o2,o3,o4,o5,ol⟩:=id O
 go_upto_region 2 with (go_at_call 132;refine (cA _ HB).mono ?_;rintro _ V2 ⟨rfl,hb1⟩;replace O:=O.keep hb1;replace Bv:=Bv.keep hb1;replace HB:=later HB hb1;clear hb1 o0 o1 o2 o3 o4 o5 ol;obtain⟨o0,o1,o2,o3,o4,o5,ol⟩:=id O)
 have zx:x<V2.heap.size:=Nat.lt_of_lt_of_le hx HB.size
 have Ba:Has2 ((V2.alloc (Obj.cells #[.float .f64 a.1,.float .f64 a.2] 24)).alloc (Obj.cells #[.float .f64 b.1,.float .f64 b.2] 24)) V2.heap.size (.float .f64 a.1) (.float .f64 a.2):=⟨by go_simp,by go_simp,by go_simp,by go_simp,by go_size⟩
 have Bb:Has2 ((V2.alloc (Obj.cells #[.float .f64 a.1,.float .f64 a.2] 24)).alloc (Obj.cells #[.float .f64 b.1,.float .f64 b.2] 24)) (V2.heap.size+1) (.float .f64 b.1) (.float .f64 b.2):=⟨by go_simp,by go_simp,by go_simp,by go_simp,by go_size⟩
 have hb1:Below V2.heap.size V2 ((V2.alloc (Obj.cells #[.float .f64 a.1,.float .f64 a.2] 24)).alloc (Obj.cells #[.float .f64 b.1,.float .f64 b.2] 24)):=by go_grown
 replace O:=O.keep hb1
 replace Bv:=Bv.keep hb1
 replace HB:=later HB hb1
 clear hb1 o0 o1 o2 o3 o4 o5 ol cA
 generalize ((V2.alloc (Obj.cells #[.float .f64 a.1,.float .f64 a.2] 24)).alloc (Obj.cells #[.float .f64 b.1,.float .f64 b.2] 24))=V3 at *
 generalize V2.heap.size=z at *
 obtain⟨o0,o1,o2,o3,o4,o5,ol⟩:=id O
 go_upto_region 3 with (go_at_call 193;refine (cB _ HB).mono ?_;rintro _ V4 ⟨rfl,hb1⟩;replace O:=O.keep hb1;replace Bv:=Bv.keep hb1;replace Ba:=Ba.keep hb1;replace Bb:=Bb.keep hb1;replace HB:=later HB hb1;clear hb1 o0 o1 o2 o3 o4 o5 ol;obtain⟨o0,o1,o2,o3,o4,o5,ol⟩:=id O)
 have yx:x<V4.heap.size:=Nat.lt_of_lt_of_le hx HB.size
 have Sa:HasI ((V4.alloc (Obj.cells #[.slice Da na Ca] 46)).alloc (Obj.cells #[.slice Db nb Cb] 46)) V4.heap.size (.slice Da na Ca):=⟨by go_simp,by go_size⟩
 have Sb:HasI ((V4.alloc (Obj.cells #[.slice Da na Ca] 46)).alloc (Obj.cells #[.slice Db nb Cb] 46)) (V4.heap.size+1) (.slice Db nb Cb):=⟨by go_simp,by go_size⟩
 have hb1:Below V4.heap.size V4 ((V4.alloc (Obj.cells #[.slice Da na Ca] 46)).alloc (Obj.cells #[.slice Db nb Cb] 46)):=by go_grown
 replace O:=O.keep hb1
 replace Bv:=Bv.keep hb1
 replace Ba:=Ba.keep hb1
 replace Bb:=Bb.keep hb1
 replace HB:=later HB hb1
 clear hb1 o0 o1 o2 o3 o4 o5 ol cB
 generalize ((V4.alloc (Obj.cells #[.slice Da na Ca] 46)).alloc (Obj.cells #[.slice Db nb Cb] 46))=V5 at *
 generalize V4.heap.size=y at *
 obtain⟨o0,o1,o2,o3,o4,o5,ol⟩:=id O
 go_upto_region 27 with fail
 have ka0:=fun n:Behind V5=>n.cell Ba.1 Ba.2.2.2.2
 have ka1:=fun n:Behind V5=>n.cell Ba.2.1 Ba.2.2.2.2
 have kS:=fun n:Behind V5=>n.cell Sa.1 Sa.2
 refine tail_behind 3 (by kernel_rfl) (by kernel_rfl) ?_
 simp only [List.take_succ_cons,List.take_zero,List.drop_succ_cons,List.drop_zero]
 repeat (go_big_quiet_step (first | (go_at_call 19;with_reducible refine Behind.call (c1 _))))
 refine wpQuiet_nil ?_
 rintro _ ⟨m',rfl⟩
 obtain⟨W,hb1⟩:=m'
 dsimp only
 replace HB:=later HB hb1
 go_wp2_with (go_at_call 204;refine (mult_w x q Da na Ca Xa P hp _ (Nat.lt_of_lt_of_le hx HB.size) offa (Ua.keep HB)).mono ?_;rintro _ V6 ⟨⟨fv,rfl,hR⟩,hb6⟩;replace HB:=later HB hb6)
 go_ret
 exact⟨⟨_,rfl,hR.rule⟩,HB⟩
set_option maxHeartbeats 2000000 in
theorem sr_13 (x:Nat) (oa ob n:Int) (l v a b:Nat×Nat) (all sl:Value) (Da Db:Option Addr) (na Ca nb Cb:Nat) (Xa:Nat->Nat×Nat) (P:Nat->Nat×Nat) (Q:Nat->Nat×Nat) (q:Nat×Nat) (c1:∀w,Calls Tryz.prog 18 #[.agg #[.float .f64 a.1,.float .f64 a.2]] w fun e w'=>e=.returned (.agg #[.float .f64 q.1,.float .f64 q.2])/\Below w.heap.size w w') (hp:∀j,j<na->∀w,Calls Tryz.prog 54 #[.agg #[.float .f64 q.1,.float .f64 q.2],.agg #[.float .f64 (Xa j).1,.float .f64 (Xa j).2]] w fun e w'=>e=.returned (.agg #[.float .f64 (P j).1,.float .f64 (P j).2])/\Below w.heap.size w w') (hq:∀j,j<na->∀w,Calls Tryz.prog 57 #[.agg #[.float .f64 (P j).1,.float .f64 (P j).2]] w fun e w'=>e=.returned (.agg #[.float .f64 (Q j).1,.float .f64 (Q j).2])/\Below w.heap.size w w') (w:World) (hx:x<w.heap.size) (offa:Off Da na x) (Ua:Ivs w Da na Xa)
   (cA:∀W,Below w.heap.size w W->Calls Tryz.prog 132 #[.agg #[.int .i64 13,.int .i64 oa,.int .i64 ob,.int .i64 n,.float .f64 l.1,.float .f64 l.2],all] W fun e w'=>e=.returned (.tuple #[.agg #[.float .f64 a.1,.float .f64 a.2],.agg #[.float .f64 b.1,.float .f64 b.2]])/\Below W.heap.size W w')
   (cB:∀W,Below w.heap.size w W->Calls Tryz.prog 193 #[.agg #[.int .i64 13,.int .i64 oa,.int .i64 ob,.int .i64 n,.float .f64 l.1,.float .f64 l.2],sl] W fun e w'=>e=.returned (.tuple #[.slice Da na Ca,.slice Db nb Cb])/\Below W.heap.size W w') :
   Calls Tryz.prog 137 #[.agg #[.int .i64 13,.int .i64 oa,.int .i64 ob,.int .i64 n,.float .f64 l.1,.float .f64 l.2],.agg #[.float .f64 v.1,.float .f64 v.2],all,sl] w fun e w'=>(∃fv,e=.returned fv/\Rule x w' fv na Q)/\Below w.heap.size w w':=by
 have O:HasO ((w.alloc (.cells #[.int .i64 13,.int .i64 oa,.int .i64 ob,.int .i64 n,.float .f64 l.1,.float .f64 l.2] 77)).alloc (.cells #[.float .f64 v.1,.float .f64 v.2] 24)) w.heap.size 13 oa ob n l:=(hasO_new w 13 oa ob n l).alloc _
 have Bv:Has2 ((w.alloc (.cells #[.int .i64 13,.int .i64 oa,.int .i64 ob,.int .i64 n,.float .f64 l.1,.float .f64 l.2] 77)).alloc (.cells #[.float .f64 v.1,.float .f64 v.2] 24)) (w.heap.size+1) (.float .f64 v.1) (.float .f64 v.2):=⟨by go_simp,by go_simp,by go_simp,by go_simp,by go_size⟩
 have HB:Below w.heap.size w ((w.alloc (.cells #[.int .i64 13,.int .i64 oa,.int .i64 ob,.int .i64 n,.float .f64 l.1,.float .f64 l.2] 77)).alloc (.cells #[.float .f64 v.1,.float .f64 v.2] 24)):=by go_grown
 go_enter Tryz.func137,Tryz.ntmps137
 go_upto_region 1 with fail
 generalize ((w.alloc (.cells #[.int .i64 13,.int .i64 oa,.int .i64 ob,.int .i64 n,.float .f64 l.1,.float .f64 l.2] 77)).alloc (.cells #[.float .f64 v.1,.float .f64 v.2] 24))=V1 at *
 obtain⟨o0,o1,o2,o3,o4,o5,ol⟩:=id O
 go_upto_region 2 with (go_at_call 132;refine (cA _ HB).mono ?_;rintro _ V2 ⟨rfl,hb1⟩;replace O:=O.keep hb1;replace Bv:=Bv.keep hb1;replace HB:=later HB hb1;clear hb1 o0 o1 o2 o3 o4 o5 ol;obtain⟨o0,o1,o2,o3,o4,o5,ol⟩:=id O)
 have zx:x<V2.heap.size:=Nat.lt_of_lt_of_le hx HB.size
 have Ba:Has2 ((V2.alloc (Obj.cells #[.float .f64 a.1,.float .f64 a.2] 24)).alloc (Obj.cells #[.float .f64 b.1,.float .f64 b.2] 24)) V2.heap.size (.float .f64 a.1) (.float .f64 a.2):=⟨by go_simp,by go_simp,by go_simp,by go_simp,by go_size⟩
 have Bb:Has2 ((V2.alloc (Obj.cells #[.float .f64 a.1,.float .f64 a.2] 24)).alloc (Obj.cells #[.float .f64 b.1,.float .f64 b.2] 24)) (V2.heap.size+1) (.float .f64 b.1) (.float .f64 b.2):=⟨by go_simp,by go_simp,by go_simp,by go_simp,by go_size⟩
 have hb1:Below V2.heap.size V2 ((V2.alloc (Obj.cells #[.float .f64 a.1,.float .f64 a.2] 24)).alloc (Obj.cells #[.float .f64 b.1,.float .f64 b.2] 24)):=by go_grown
 replace O:=O.keep hb1
 replace Bv:=Bv.keep hb1
 replace HB:=later HB hb1
 clear hb1 o0 o1 o2 o3 o4 o5 ol cA
 generalize ((V2.alloc (Obj.cells #[.float .f64 a.1,.float .f64 a.2] 24)).alloc (Obj.cells #[.float .f64 b.1,.float .f64 b.2] 24))=V3 at *
 generalize V2.heap.size=z at *
 obtain⟨o0,o1,o2,o3,o4,o5,ol⟩:=id O
 go_upto_region 3 with (go_at_call 193;refine (cB _ HB).mono ?_;rintro _ V4 ⟨rfl,hb1⟩;replace O:=O.keep hb1;replace Bv:=Bv.keep hb1;replace Ba:=Ba.keep hb1;replace Bb:=Bb.keep hb1;replace HB:=later HB hb1;clear hb1 o0 o1 o2 o3 o4 o5 ol;obtain⟨o0,o1,o2,o3,o4,o5,ol⟩:=id O)
 have yx:x<V4.heap.size:=Nat.lt_of_lt_of_le hx HB.size
 have Sa:HasI ((V4.alloc (Obj.cells #[.slice Da na Ca] 46)).alloc (Obj.cells #[.slice Db nb Cb] 46)) V4.heap.size (.slice Da na Ca):=⟨by go_simp,by go_size⟩
 have Sb:HasI ((V4.alloc (Obj.cells #[.slice Da na Ca] 46)).alloc (Obj.cells #[.slice Db nb Cb] 46)) (V4.heap.size+1) (.slice Db nb Cb):=⟨by go_simp,by go_size⟩
 have hb1:Below V4.heap.size V4 ((V4.alloc (Obj.cells #[.slice Da na Ca] 46)).alloc (Obj.cells #[.slice Db nb Cb] 46)):=by go_grown
 replace O:=O.keep hb1
 replace Bv:=Bv.keep hb1
 replace Ba:=Ba.keep hb1
 replace Bb:=Bb.keep hb1
 replace HB:=later HB hb1
 clear hb1 o0 o1 o2 o3 o4 o5 ol cB
 generalize ((V4.alloc (Obj.cells #[.slice Da na Ca] 46)).alloc (Obj.cells #[.slice Db nb Cb] 46))=V5 at *
 generalize V4.heap.size=y at *
 obtain⟨o0,o1,o2,o3,o4,o5,ol⟩:=id O
 go_upto_region 29 with fail
 have vx:x<V5.heap.size:=Nat.lt_of_lt_of_le hx HB.size
 have q5:w.heap.size<=V5.heap.size:=HB.size
 clear o0 o1 o2 o3 o4 o5 ol O Bv Bb Sb
 obtain⟨a0,a1,a2,a3,a4⟩:=id Ba
 obtain⟨s0,s1⟩:=id Sa
 go_region_with
   (first
     | (go_at_call 18;refine (c1 _).mono ?_;rintro _ V6 ⟨rfl,hb6⟩;replace Ba:=Ba.keep (later (by go_grown) hb6);replace Sa:=Sa.keep (later (by go_grown) hb6);clear a0 a1 a2 a3 a4 s0 s1;obtain⟨a0,a1,a2,a3,a4⟩:=id Ba;obtain⟨s0,s1⟩:=id Sa;replace HB:=later (later HB (by go_grown)) hb6;have vx6:x<V6.heap.size:=Nat.lt_of_lt_of_le hx HB.size;have q6:w.heap.size<=V6.heap.size:=HB.size;(first | (have n6:=keepsC hb6 (new_cell1 V5 _ _) (lt_alloc V5 _);have f6:=keepsF hb6 (new_frozen1 V5 _ _) (lt_alloc V5 _);have z6:=Nat.lt_of_lt_of_le (lt_alloc V5 _) hb6.size) | skip))
     | (go_at_call 204;refine (mult_c q Da na Ca _).mono ?_;rintro _ V7 ⟨⟨bf,ba,rfl,lf,la,mB,mI⟩,hb7⟩;clear a0 a1 a2 a3 a4 s0 s1 Ba Sa;replace HB:=later (later HB (by go_grown)) hb7;have vx7:x<V7.heap.size:=Nat.lt_of_lt_of_le hx HB.size;(try simp only [World.size_alloc] at lf la);(first | (have n7:=keepsC hb7 n6 z6;have f7:=keepsF hb7 f6 z6;have z7:=Nat.lt_of_lt_of_le z6 hb7.size) | (have n7:=keepsC hb7 (new_cell1 V6 _ _) (lt_alloc V6 _);have f7:=keepsF hb7 (new_frozen1 V6 _ _) (lt_alloc V6 _);have z7:=Nat.lt_of_lt_of_le (lt_alloc V6 _) hb7.size) | skip)))
 all_goals
   have lb:=mB.2.2.2.2
   have li:=mI.2
   have w6:=hb6.size
   go_wp2_with fail
   first
     | (replace mB:=Has2.far1 (c:=V5.heap.size) (o:=0) mB (by omega) (.func (.func 243) #[] #[.pointer (some ⟨bf,0,none⟩),.pointer (some ⟨ba,0,none⟩)])
        replace mI:=HasI.far1 (c:=V5.heap.size) (o:=0) mI (by omega) (.func (.func 243) #[] #[.pointer (some ⟨bf,0,none⟩),.pointer (some ⟨ba,0,none⟩)])
        go_ret
        exact⟨⟨_,rfl,205,_,rfl,by unfold Lit;simp,fun j hj W hW=>cl_turn j _ _ (P j) (Q j) (hq j hj) _ W (HasI.ex ⟨by go_simp,by go_size⟩ hW (by omega)) (fun W2 h2=>cl_mul q (P j) Da na Ca Xa j hj (hp j hj) _ _ W2 ((mB.ex hW (by omega)).keep h2) ((mI.ex hW (by omega)).keep h2) (((Ua.keep (HB.setCell q5 _)).ex hW offa).keep h2))⟩,HB.setCell q5 _⟩)
     | (replace mB:=Has2.far1 (c:=V6.heap.size) (o:=0) mB (by omega) (.func (.func 243) #[] #[.pointer (some ⟨bf,0,none⟩),.pointer (some ⟨ba,0,none⟩)])
        replace mI:=HasI.far1 (c:=V6.heap.size) (o:=0) mI (by omega) (.func (.func 243) #[] #[.pointer (some ⟨bf,0,none⟩),.pointer (some ⟨ba,0,none⟩)])
        go_ret
        exact⟨⟨_,rfl,205,_,rfl,by unfold Lit;simp,fun j hj W hW=>cl_turn j _ _ (P j) (Q j) (hq j hj) _ W (HasI.ex ⟨by go_simp,by go_size⟩ hW (by omega)) (fun W2 h2=>cl_mul q (P j) Da na Ca Xa j hj (hp j hj) _ _ W2 ((mB.ex hW (by omega)).keep h2) ((mI.ex hW (by omega)).keep h2) (((Ua.keep (HB.setCell q6 _)).ex hW offa).keep h2))⟩,HB.setCell q6 _⟩)
     | (go_ret
        exact⟨⟨_,rfl,205,_,rfl,by unfold Lit;simp,fun j hj W hW=>cl_turn j _ _ (P j) (Q j) (hq j hj) _ W (HasI.ex ⟨by go_simp,by go_size⟩ hW (by omega)) (fun W2 h2=>cl_mul q (P j) Da na Ca Xa j hj (hp j hj) _ _ W2 (((mB.keep (by go_grown)).ex hW (by omega)).keep h2) (((mI.keep (by go_grown)).ex hW (by omega)).keep h2) (((Ua.keep (later HB (by go_grown))).ex hW offa).keep h2))⟩,later HB (by go_grown)⟩)
set_option maxHeartbeats 2000000 in
theorem sr_14 (x:Nat) (oa ob n:Int) (l v a b:Nat×Nat) (all sl:Value) (Da Db:Option Addr) (na Ca nb Cb:Nat) (Xa:Nat->Nat×Nat) (P:Nat->Nat×Nat) (p q r:Nat×Nat) (c1:∀w,Calls Tryz.prog 55 #[.float .f64 4607182418800017408] w fun e w'=>e=.returned (.agg #[.float .f64 p.1,.float .f64 p.2])/\Below w.heap.size w w') (c2:∀w,Calls Tryz.prog 206 #[.agg #[.float .f64 a.1,.float .f64 a.2]] w fun e w'=>e=.returned (.agg #[.float .f64 q.1,.float .f64 q.2])/\Below w.heap.size w w') (c3:∀w,Calls Tryz.prog 61 #[.agg #[.float .f64 p.1,.float .f64 p.2],.agg #[.float .f64 q.1,.float .f64 q.2]] w fun e w'=>e=.returned (.agg #[.float .f64 r.1,.float .f64 r.2])/\Below w.heap.size w w') (hp:∀j,j<na->∀w,Calls Tryz.prog 50 #[.agg #[.float .f64 (Xa j).1,.float .f64 (Xa j).2],.agg #[.float .f64 r.1,.float .f64 r.2]] w fun e w'=>e=.returned (.agg #[.float .f64 (P j).1,.float .f64 (P j).2])/\Below w.heap.size w w') (w:World) (hx:x<w.heap.size) (offa:Off Da na x) (Ua:Ivs w Da na Xa)
  (cA:∀W,Below w.heap.size w W->Calls Tryz.prog 132 #[.agg #[.int .i64 14,.int .i64 oa,.int .i64 ob,.int .i64 n,.float .f64 l.1,.float .f64 l.2],all] W fun e w'=>e=.returned (.tuple #[.agg #[.float .f64 a.1,.float .f64 a.2],.agg #[.float .f64 b.1,.float .f64 b.2]])/\Below W.heap.size W w')
  (cB:∀W,Below w.heap.size w W->Calls Tryz.prog 193 #[.agg #[.int .i64 14,.int .i64 oa,.int .i64 ob,.int .i64 n,.float .f64 l.1,.float .f64 l.2],sl] W fun e w'=>e=.returned (.tuple #[.slice Da na Ca,.slice Db nb Cb])/\Below W.heap.size W w') :
  Calls Tryz.prog 137 #[.agg #[.int .i64 14,.int .i64 oa,.int .i64 ob,.int .i64 n,.float .f64 l.1,.float .f64 l.2],.agg #[.float .f64 v.1,.float .f64 v.2],all,sl] w fun e w'=>(∃fv,e=.returned fv/\Rule x w' fv na P)/\Below w.heap.size w w':=by
 have O:HasO ((w.alloc (.cells #[.int .i64 14,.int .i64 oa,.int .i64 ob,.int .i64 n,.float .f64 l.1,.float .f64 l.2] 77)).alloc (.cells #[.float .f64 v.1,.float .f64 v.2] 24)) w.heap.size 14 oa ob n l:=(hasO_new w 14 oa ob n l).alloc _
 have Bv:Has2 ((w.alloc (.cells #[.int .i64 14,.int .i64 oa,.int .i64 ob,.int .i64 n,.float .f64 l.1,.float .f64 l.2] 77)).alloc (.cells #[.float .f64 v.1,.float .f64 v.2] 24)) (w.heap.size+1) (.float .f64 v.1) (.float .f64 v.2):=⟨by go_simp,by go_simp,by go_simp,by go_simp,by go_size⟩
 have HB:Below w.heap.size w ((w.alloc (.cells #[.int .i64 14,.int .i64 oa,.int .i64 ob,.int .i64 n,.float .f64 l.1,.float .f64 l.2] 77)).alloc (.cells #[.float .f64 v.1,.float .f64 v.2] 24)):=by go_grown
 go_enter Tryz.func137,Tryz.ntmps137
 go_upto_region 1 with fail
 generalize ((w.alloc (.cells #[.int .i64 14,.int .i64 oa,.int .i64 ob,.int .i64 n,.float .f64 l.1,.float .f64 l.2] 77)).alloc (.cells #[.float .f64 v.1,.float .f64 v.2] 24))=V1 at *
 obtain⟨o0,o1,o2,o3,o4,o5,ol⟩:=id O
 go_upto_region 2 with (go_at_call 132;refine (cA _ HB).mono ?_;rintro _ V2 ⟨rfl,hb1⟩;replace O:=O.keep hb1;replace Bv:=Bv.keep hb1;replace HB:=later HB hb1;clear hb1 o0 o1 o2 o3 o4 o5 ol;obtain⟨o0,o1,o2,o3,o4,o5,ol⟩:=id O)
 have zx:x<V2.heap.size:=Nat.lt_of_lt_of_le hx HB.size
 have Ba:Has2 ((V2.alloc (Obj.cells #[.float .f64 a.1,.float .f64 a.2] 24)).alloc (Obj.cells #[.float .f64 b.1,.float .f64 b.2] 24)) V2.heap.size (.float .f64 a.1) (.float .f64 a.2):=⟨by go_simp,by go_simp,by go_simp,by go_simp,by go_size⟩
 have Bb:Has2 ((V2.alloc (Obj.cells #[.float .f64 a.1,.float .f64 a.2] 24)).alloc (Obj.cells #[.float .f64 b.1,.float .f64 b.2] 24)) (V2.heap.size+1) (.float .f64 b.1) (.float .f64 b.2):=⟨by go_simp,by go_simp,by go_simp,by go_simp,by go_size⟩
 have hb1:Below V2.heap.size V2 ((V2.alloc (Obj.cells #[.float .f64 a.1,.float .f64 a.2] 24)).alloc (Obj.cells #[.float .f64 b.1,.float .f64 b.2] 24)):=by go_grown
 replace O:=O.keep hb1
 replace Bv:=Bv.keep hb1
 replace HB:=later HB hb1
 clear hb1 o0 o1 o2 o3 o4 o5 ol cA
 generalize ((V2.alloc (Obj.cells #[.float .f64 a.1,.float .f64 a.2] 24)).alloc (Obj.cells #[.float .f64 b.1,.float .f64 b.2] 24))=V3 at *
 generalize V2.heap.size=z at *
 obtain⟨o0,o1,o2,o3,o4,o5,ol⟩:=id O
 go_upto_region 3 with (go_at_call 193;refine (cB _ HB).mono ?_;rintro _ V4 ⟨rfl,hb1⟩;replace O:=O.keep hb1;replace Bv:=Bv.keep hb1;replace Ba:=Ba.keep hb1;replace Bb:=Bb.keep hb1;replace HB:=later HB hb1;clear hb1 o0 o1 o2 o3 o4 o5 ol;obtain⟨o0,o1,o2,o3,o4,o5,ol⟩:=id O)
 have yx:x<V4.heap.size:=Nat.lt_of_lt_of_le hx HB.size
 have Sa:HasI ((V4.alloc (Obj.cells #[.slice Da na Ca] 46)).alloc (Obj.cells #[.slice Db nb Cb] 46)) V4.heap.size (.slice Da na Ca):=⟨by go_simp,by go_size⟩
 have Sb:HasI ((V4.alloc (Obj.cells #[.slice Da na Ca] 46)).alloc (Obj.cells #[.slice Db nb Cb] 46)) (V4.heap.size+1) (.slice Db nb Cb):=⟨by go_simp,by go_size⟩
 have hb1:Below V4.heap.size V4 ((V4.alloc (Obj.cells #[.slice Da na Ca] 46)).alloc (Obj.cells #[.slice Db nb Cb] 46)):=by go_grown
 replace O:=O.keep hb1
 replace Bv:=Bv.keep hb1
 replace Ba:=Ba.keep hb1
 replace Bb:=Bb.keep hb1
 replace HB:=later HB hb1
 clear hb1 o0 o1 o2 o3 o4 o5 ol cB
 generalize ((V4.alloc (Obj.cells #[.slice Da na Ca] 46)).alloc (Obj.cells #[.slice Db nb Cb] 46))=V5 at *
 generalize V4.heap.size=y at *
 obtain⟨o0,o1,o2,o3,o4,o5,ol⟩:=id O
 go_upto_region 31 with fail
 have kS:=fun n:Behind V5=>n.cell Sa.1 Sa.2
 have ka0:=fun n:Behind V5=>n.cell Ba.1 Ba.2.2.2.2
 have ka1:=fun n:Behind V5=>n.cell Ba.2.1 Ba.2.2.2.2
 refine tail_behind 5 (by kernel_rfl) (by kernel_rfl) ?_
 simp only [List.take_succ_cons,List.take_zero,List.drop_succ_cons,List.drop_zero]
 repeat (go_big_quiet_step (first | (go_at_call 55;with_reducible refine Behind.call (c1 _)) | (go_at_call 206;with_reducible refine Behind.call (c2 _)) | (go_at_call 61;with_reducible refine Behind.call (c3 _))))
 refine wpQuiet_nil ?_
 rintro _ ⟨m',rfl⟩
 obtain⟨W,hb1⟩:=m'
 dsimp only
 replace HB:=later HB hb1
 go_wp2_with (go_at_call 203;refine (divd_w x r Da na Ca Xa P hp _ (Nat.lt_of_lt_of_le hx HB.size) offa (Ua.keep HB)).mono ?_;rintro _ V6 ⟨⟨fv,rfl,hR⟩,hb6⟩;replace HB:=later HB hb6)
 go_ret
 exact⟨⟨_,rfl,hR⟩,HB⟩
end Go.Proofs.YtopfabemfbdccaaGreat
