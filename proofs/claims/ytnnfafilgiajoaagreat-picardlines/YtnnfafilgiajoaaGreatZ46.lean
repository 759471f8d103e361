/- picard: the wide box is tried. picard: all tries, one after another. -/
import Derived.Test.YtnnfafilgiajoaaGreatZ45
namespace Go.Proofs.YtnnfafilgiajoaaGreat
open Go.ChangeShapes Go.WideShapes Go.ChangeAt Go.RowKit
theorem HasQ.five {w:World} {b:Nat} {q:Qst} (h:HasQ w b q):w.cell? ⟨b,0,none⟩=some (.int .i64 q.v)∧w.cell? ⟨b,1,none⟩=some (.slice q.A q.n q.C)∧w.cell? ⟨b,2,none⟩=some (.slice q.D q.m q.E)∧w.cell? ⟨b,3,none⟩=some (.slice q.AX q.k q.CX)∧w.cell? ⟨b,4,none⟩=some (.float .f64 q.t):=⟨h.c0,h.c1,h.c2,h.c3,h.c4⟩
set_option maxHeartbeats 8000000 in
theorem wid_c1 (q:Qst) (F P:Nat→Nat×Nat) (hk0:0<q.k) (w:World) (qb:Nat) (Q:HasQ w qb q)
   (cW:∀W,Below w.heap.size w W→Calls Tryz.prog 73 #[.slice q.AX q.k q.CX] W fun e w'=>(∃g,e=.returned (.slice (some ⟨g,0,none⟩) q.k q.k)∧Img w' g q.k F)∧Below W.heap.size W w')
   (cT:∀W g,Below w.heap.size w W→Img W g q.k F→Calls Tryz.prog 72 #[q.val,.slice (some ⟨g,0,none⟩) q.k q.k] W fun e w'=>(∃h A' n' C',e=.returned (.tuple #[.agg #[.slice (some ⟨g,0,none⟩) q.k q.k,.slice (some ⟨h,0,none⟩) q.k q.k],.slice A' n' C'])∧Img w' h q.k P)∧Below W.heap.size W w') :
   Calls Tryz.prog 71 #[.agg #[.slice none 0 0,.slice none 0 0],.pointer (some ⟨qb,0,none⟩)] w fun e w'=>(∃g h,e=.returned (.agg #[.slice (some ⟨g,0,none⟩) q.k q.k,.slice (some ⟨h,0,none⟩) q.k q.k])∧Img w' g q.k F∧Img w' h q.k P)∧Below w.heap.size w w':=by
 obtain⟨D,R,HB⟩:=enterB w none 0 0 none 0 0
 unfold Qst.val at cT
 replace Q:=Q.keep HB
 go_enter Tryz.func71,Tryz.ntmps71
 go_upto_region 1 with fail
 generalize (w.alloc (.cells #[.slice none 0 0,.slice none 0 0] 71)).alloc (.cells #[.slice none 0 0,.slice none 0 0] 71)=V1 at *
 have hb1:Below V1.heap.size V1 V1.drew:=(Below.refl _ _).drew
 replace D:=D.keep hb1;replace R:=R.keep hb1;replace Q:=Q.keep hb1;replace HB:=later HB hb1;clear hb1
 obtain⟨q0,q1,q2,q3,q4,ql⟩:=id Q
 have nq0:V1.heap.size≠qb:=Nat.ne_of_gt Q.lt
 have hv1:w.heap.size+1<V1.heap.size:=R.2.2.2.2
 have hbA:Below V1.drew.heap.size V1.drew (V1.alloc (.cells #[.slice none 0 0,.slice none 0 0] 71)).drew:=below_alloc (Below.refl V1.drew.heap.size V1.drew) (.cells #[.slice none 0 0,.slice none 0 0] 71)
 have HA:=later HB hbA
 have QA:=Q.keep hbA
 have NA:Has2 (V1.alloc (.cells #[.slice none 0 0,.slice none 0 0] 71)).drew V1.heap.size (.slice none 0 0) (.slice none 0 0):=has2_new V1.drew (.slice none 0 0) (.slice none 0 0) 71
 go_region_held3 (fun w'=>w'.cell? ⟨qb,0,none⟩=some (.int .i64 q.v)∧w'.cell? ⟨qb,1,none⟩=some (.slice q.A q.n q.C)∧w'.cell? ⟨qb,2,none⟩=some (.slice q.D q.m q.E)∧w'.cell? ⟨qb,3,none⟩=some (.slice q.AX q.k q.CX)∧w'.cell? ⟨qb,4,none⟩=some (.float .f64 q.t)) (first | with_reducible exact Q.five | with_reducible exact QA.five | with_reducible exact ((Q.far nq0 _).far nq0 _).five | with_reducible exact ((Q.far nq1 _).far nq1 _).five | with_reducible exact (Q.keep (below_alloc (Below.refl _ _) _)).five | with_reducible exact (((Q.keep (below_alloc (Below.refl _ _) _)).far nq2 _).far nq2 _).five | go_keep) (first
   | (go_at_call 73;(with_reducible refine (cW _ HB).mono ?_);rintro _ W1 ⟨⟨g,rfl,hg⟩,hb1⟩;replace D:=D.keep hb1;replace R:=R.keep hb1;replace Q:=Q.keep hb1;replace HB:=later HB hb1;clear hb1;have nq1:W1.heap.size≠qb:=Nat.ne_of_gt Q.lt;have hv1':w.heap.size+1<W1.heap.size:=R.2.2.2.2;clear q0 q1 q2 q3 q4 ql;obtain⟨q0,q1,q2,q3,q4,ql⟩:=id Q)
   | (go_at_call 73;(with_reducible refine (cW _ HA).mono ?_);rintro _ W1 ⟨⟨g,rfl,hg⟩,hb0⟩;have N:=NA.keep hb0;have hb1:=later hbA hb0;replace D:=D.keep hb1;replace R:=R.keep hb1;replace Q:=Q.keep hb1;replace HB:=later HB hb1;clear hb1;clear hb0 q0 q1 q2 q3 q4 ql;obtain⟨q0,q1,q2,q3,q4,ql⟩:=id Q)
   | (go_at_call 72;(with_reducible refine (cT _ _ HB hg).mono ?_);rintro _ W2 ⟨⟨h,A3,n3,C3,rfl,hh⟩,hb1⟩;replace hg:=hg.keep hb1;(try (replace N:=N.keep hb1;obtain⟨n0,n1,n2,n3,n4⟩:=id N));replace D:=D.keep hb1;replace R:=R.keep hb1;replace Q:=Q.keep hb1;replace HB:=later HB hb1;clear hb1;have nq2:W2.heap.size≠qb:=Nat.ne_of_gt Q.lt;clear q0 q1 q2 q3 q4 ql;obtain⟨q0,q1,q2,q3,q4,ql⟩:=id Q)
   | (go_at_call 72;(with_reducible refine (cT _ _ (below_alloc HB _) (hg.keep (below_alloc (Below.refl _ _) _))).mono ?_);rintro _ W2 ⟨⟨h,A3,n3,C3,rfl,hh⟩,hb0⟩;have N:=(has2_new W1 (.slice none 0 0) (.slice none 0 0) 71).keep hb0;obtain⟨n0,n1,n2,n3,n4⟩:=id N;have hb1:=later (below_alloc (Below.refl W1.heap.size W1) (.cells #[.slice none 0 0,.slice none 0 0] 71)) hb0;replace hg:=hg.keep hb1;replace D:=D.keep hb1;replace R:=R.keep hb1;replace Q:=Q.keep hb1;replace HB:=later HB hb1;clear hb1;clear hb0 q0 q1 q2 q3 q4 ql;obtain⟨q0,q1,q2,q3,q4,ql⟩:=id Q))
 · have N:Has2 (W2.alloc (.cells #[.slice (some ⟨g,0,none⟩) q.k q.k,.slice (some ⟨h,0,none⟩) q.k q.k] 71)) W2.heap.size (.slice (some ⟨g,0,none⟩) q.k q.k) (.slice (some ⟨h,0,none⟩) q.k q.k):=has2_new _ _ _ _
   have hb1:Below W2.heap.size W2 (W2.alloc (.cells #[.slice (some ⟨g,0,none⟩) q.k q.k,.slice (some ⟨h,0,none⟩) q.k q.k] 71)):=by go_grown
   replace hg:=hg.keep hb1;replace hh:=hh.keep hb1;replace D:=D.keep hb1;replace R:=R.keep hb1;replace HB:=later HB hb1;clear hb1
   clear q0 q1 q2 q3 q4 ql Q
   generalize W2.alloc (.cells #[.slice (some ⟨g,0,none⟩) q.k q.k,.slice (some ⟨h,0,none⟩) q.k q.k] 71)=W3 at *
   generalize W2.heap.size=fb at *
   obtain⟨y0,y1,y2,y3,y4⟩:=id N
   obtain⟨x0,x1,x2,x3,x4⟩:=id D
   go_wp2_with (go_at_call 74;refine (sm_first ⟨g,0,none⟩ q.k q.k (some ⟨h,0,none⟩) q.k q.k _).mono ?_;rintro _ W4 ⟨rfl,hb1⟩;replace hg:=hg.keep hb1;replace hh:=hh.keep hb1;replace R:=R.keep hb1;replace HB:=later HB hb1;clear hb1;clear x0 x1 x2 x3 x4 y0 y1 y2 y3 y4;obtain⟨r0,r1,r2,r3,r4⟩:=id R)
   refine bodyPost_ret (v:=.agg #[.slice (some ⟨g,0,none⟩) q.k q.k,.slice (some ⟨h,0,none⟩) q.k q.k]) (by simp [results,Tryz.results71,go_sem, *]) rfl ⟨⟨g,h,rfl,hg.far2 (hg.ne hk0 R) _ _,hh.far2 (hh.ne hk0 R) _ _⟩, ?_⟩
   repeat' (first | (with_reducible exact HB) | (with_reducible refine below_alloc ?_ _) | (with_reducible refine Below.setCell ?_ ?_ _) | go_size | omega)
 · replace D:=D.far2 (c:=W1.heap.size) (by omega) (.slice (some ⟨g,0,none⟩) q.k q.k) (.slice (some ⟨h,0,none⟩) q.k q.k)
   replace R:=R.far2 (c:=W1.heap.size) (by omega) (.slice (some ⟨g,0,none⟩) q.k q.k) (.slice (some ⟨h,0,none⟩) q.k q.k)
   replace HB:Below w.heap.size w ((W2.setCell ⟨W1.heap.size,0,none⟩ (.slice (some ⟨g,0,none⟩) q.k q.k)).setCell ⟨W1.heap.size,1,none⟩ (.slice (some ⟨h,0,none⟩) q.k q.k)):=(HB.setCell (by simp;omega) _).setCell (by simp;omega) _
   replace hg:=hg.far2 (hg.ne hk0 N) (.slice (some ⟨g,0,none⟩) q.k q.k) (.slice (some ⟨h,0,none⟩) q.k q.k);replace hh:=hh.far2 (hh.ne hk0 N) (.slice (some ⟨g,0,none⟩) q.k q.k) (.slice (some ⟨h,0,none⟩) q.k q.k);replace N:=N.put (.slice (some ⟨g,0,none⟩) q.k q.k) (.slice (some ⟨h,0,none⟩) q.k q.k)
   clear n0 n1 n2 n3 n4 q0 q1 q2 q3 q4 ql Q
   generalize (W2.setCell ⟨W1.heap.size,0,none⟩ (.slice (some ⟨g,0,none⟩) q.k q.k)).setCell ⟨W1.heap.size,1,none⟩ (.slice (some ⟨h,0,none⟩) q.k q.k)=W3 at *
   generalize W1.heap.size=fb at *
   obtain⟨y0,y1,y2,y3,y4⟩:=id N
   obtain⟨x0,x1,x2,x3,x4⟩:=id D
   go_wp2_with (go_at_call 74;refine (sm_first ⟨g,0,none⟩ q.k q.k (some ⟨h,0,none⟩) q.k q.k _).mono ?_;rintro _ W4 ⟨rfl,hb1⟩;replace hg:=hg.keep hb1;replace hh:=hh.keep hb1;replace R:=R.keep hb1;replace HB:=later HB hb1;clear hb1;clear x0 x1 x2 x3 x4 y0 y1 y2 y3 y4;obtain⟨r0,r1,r2,r3,r4⟩:=id R)
   refine bodyPost_ret (v:=.agg #[.slice (some ⟨g,0,none⟩) q.k q.k,.slice (some ⟨h,0,none⟩) q.k q.k]) (by simp [results,Tryz.results71,go_sem, *]) rfl ⟨⟨g,h,rfl,hg.far2 (hg.ne hk0 R) _ _,hh.far2 (hh.ne hk0 R) _ _⟩, ?_⟩
   repeat' (first | (with_reducible exact HB) | (with_reducible refine below_alloc ?_ _) | (with_reducible refine Below.setCell ?_ ?_ _) | go_size | omega)
 · replace D:=D.far2 (c:=V1.heap.size) (by omega) (.slice (some ⟨g,0,none⟩) q.k q.k) (.slice (some ⟨h,0,none⟩) q.k q.k)
   replace R:=R.far2 (c:=V1.heap.size) (by omega) (.slice (some ⟨g,0,none⟩) q.k q.k) (.slice (some ⟨h,0,none⟩) q.k q.k)
   replace HB:Below w.heap.size w ((W2.setCell ⟨V1.heap.size,0,none⟩ (.slice (some ⟨g,0,none⟩) q.k q.k)).setCell ⟨V1.heap.size,1,none⟩ (.slice (some ⟨h,0,none⟩) q.k q.k)):=(HB.setCell (by simp;omega) _).setCell (by simp;omega) _
   replace hg:=hg.far2 (hg.ne hk0 N) (.slice (some ⟨g,0,none⟩) q.k q.k) (.slice (some ⟨h,0,none⟩) q.k q.k);replace hh:=hh.far2 (hh.ne hk0 N) (.slice (some ⟨g,0,none⟩) q.k q.k) (.slice (some ⟨h,0,none⟩) q.k q.k);replace N:=N.put (.slice (some ⟨g,0,none⟩) q.k q.k) (.slice (some ⟨h,0,none⟩) q.k q.k)
   clear n0 n1 n2 n3 n4 q0 q1 q2 q3 q4 ql Q
   generalize (W2.setCell ⟨V1.heap.size,0,none⟩ (.slice (some ⟨g,0,none⟩) q.k q.k)).setCell ⟨V1.heap.size,1,none⟩ (.slice (some ⟨h,0,none⟩) q.k q.k)=W3 at *
   generalize V1.heap.size=fb at *
   obtain⟨y0,y1,y2,y3,y4⟩:=id N
   obtain⟨x0,x1,x2,x3,x4⟩:=id D
   go_wp2_with (go_at_call 74;refine (sm_first ⟨g,0,none⟩ q.k q.k (some ⟨h,0,none⟩) q.k q.k _).mono ?_;rintro _ W4 ⟨rfl,hb1⟩;replace hg:=hg.keep hb1;replace hh:=hh.keep hb1;replace R:=R.keep hb1;replace HB:=later HB hb1;clear hb1;clear x0 x1 x2 x3 x4 y0 y1 y2 y3 y4;obtain⟨r0,r1,r2,r3,r4⟩:=id R)
   refine bodyPost_ret (v:=.agg #[.slice (some ⟨g,0,none⟩) q.k q.k,.slice (some ⟨h,0,none⟩) q.k q.k]) (by simp [results,Tryz.results71,go_sem, *]) rfl ⟨⟨g,h,rfl,hg.far2 (hg.ne hk0 R) _ _,hh.far2 (hh.ne hk0 R) _ _⟩, ?_⟩
   repeat' (first | (with_reducible exact HB) | (with_reducible refine below_alloc ?_ _) | (with_reducible refine Below.setCell ?_ ?_ _) | go_size | omega)
set_option maxHeartbeats 8000000 in
theorem wid_c0 (q:Qst) (F:Nat→Nat×Nat) (w:World) (qb:Nat) (Q:HasQ w qb q)
   (cW:∀W,Below w.heap.size w W→Calls Tryz.prog 73 #[.slice q.AX q.k q.CX] W fun e w'=>(∃g,e=.returned (.slice (some ⟨g,0,none⟩) q.k q.k)∧Img w' g q.k F)∧Below W.heap.size W w')
   (cT:∀W g,Below w.heap.size w W→Img W g q.k F→Calls Tryz.prog 72 #[q.val,.slice (some ⟨g,0,none⟩) q.k q.k] W fun e w'=>(∃A' n' C',e=.returned (.tuple #[.agg #[.slice none 0 0,.slice none 0 0],.slice A' n' C']))∧Below W.heap.size W w') :
   Calls Tryz.prog 71 #[.agg #[.slice none 0 0,.slice none 0 0],.pointer (some ⟨qb,0,none⟩)] w fun e w'=>e=.returned (.agg #[.slice none 0 0,.slice none 0 0])∧Below w.heap.size w w':=by
 obtain⟨D,R,HB⟩:=enterB w none 0 0 none 0 0
 unfold Qst.val at cT
 replace Q:=Q.keep HB
 go_enter Tryz.func71,Tryz.ntmps71
 go_upto_region 1 with fail
 generalize (w.alloc (.cells #[.slice none 0 0,.slice none 0 0] 71)).alloc (.cells #[.slice none 0 0,.slice none 0 0] 71)=V1 at *
 have hb1:Below V1.heap.size V1 V1.drew:=(Below.refl _ _).drew
 replace D:=D.keep hb1;replace R:=R.keep hb1;replace Q:=Q.keep hb1;replace HB:=later HB hb1;clear hb1
 obtain⟨q0,q1,q2,q3,q4,ql⟩:=id Q
 have nq0:V1.heap.size≠qb:=Nat.ne_of_gt Q.lt
 have hv1:w.heap.size+1<V1.heap.size:=R.2.2.2.2
 have hbA:Below V1.drew.heap.size V1.drew (V1.alloc (.cells #[.slice none 0 0,.slice none 0 0] 71)).drew:=below_alloc (Below.refl V1.drew.heap.size V1.drew) (.cells #[.slice none 0 0,.slice none 0 0] 71)
 have HA:=later HB hbA
 have QA:=Q.keep hbA
 have NA:Has2 (V1.alloc (.cells #[.slice none 0 0,.slice none 0 0] 71)).drew V1.heap.size (.slice none 0 0) (.slice none 0 0):=has2_new V1.drew (.slice none 0 0) (.slice none 0 0) 71
 go_region_held3 (fun w'=>w'.cell? ⟨qb,0,none⟩=some (.int .i64 q.v)∧w'.cell? ⟨qb,1,none⟩=some (.slice q.A q.n q.C)∧w'.cell? ⟨qb,2,none⟩=some (.slice q.D q.m q.E)∧w'.cell? ⟨qb,3,none⟩=some (.slice q.AX q.k q.CX)∧w'.cell? ⟨qb,4,none⟩=some (.float .f64 q.t)) (first | with_reducible exact Q.five | with_reducible exact QA.five | with_reducible exact ((Q.far nq0 _).far nq0 _).five | with_reducible exact ((Q.far nq1 _).far nq1 _).five | with_reducible exact (Q.keep (below_alloc (Below.refl _ _) _)).five | with_reducible exact (((Q.keep (below_alloc (Below.refl _ _) _)).far nq2 _).far nq2 _).five | go_keep) (first
   | (go_at_call 73;(with_reducible refine (cW _ HB).mono ?_);rintro _ W1 ⟨⟨g,rfl,hg⟩,hb1⟩;replace D:=D.keep hb1;replace R:=R.keep hb1;replace Q:=Q.keep hb1;replace HB:=later HB hb1;clear hb1;have nq1:W1.heap.size≠qb:=Nat.ne_of_gt Q.lt;have hv1':w.heap.size+1<W1.heap.size:=R.2.2.2.2;clear q0 q1 q2 q3 q4 ql;obtain⟨q0,q1,q2,q3,q4,ql⟩:=id Q)
   | (go_at_call 73;(with_reducible refine (cW _ HA).mono ?_);rintro _ W1 ⟨⟨g,rfl,hg⟩,hb0⟩;have N:=NA.keep hb0;have hb1:=later hbA hb0;replace D:=D.keep hb1;replace R:=R.keep hb1;replace Q:=Q.keep hb1;replace HB:=later HB hb1;clear hb1;clear hb0 q0 q1 q2 q3 q4 ql;obtain⟨q0,q1,q2,q3,q4,ql⟩:=id Q)
   | (go_at_call 72;(with_reducible refine (cT _ _ HB hg).mono ?_);rintro _ W2 ⟨⟨A3,n3,C3,rfl⟩,hb1⟩;replace hg:=hg.keep hb1;(try (replace N:=N.keep hb1;obtain⟨n0,n1,n2,n3,n4⟩:=id N));replace D:=D.keep hb1;replace R:=R.keep hb1;replace Q:=Q.keep hb1;replace HB:=later HB hb1;clear hb1;have nq2:W2.heap.size≠qb:=Nat.ne_of_gt Q.lt;clear q0 q1 q2 q3 q4 ql;obtain⟨q0,q1,q2,q3,q4,ql⟩:=id Q)
   | (go_at_call 72;(with_reducible refine (cT _ _ (below_alloc HB _) (hg.keep (below_alloc (Below.refl _ _) _))).mono ?_);rintro _ W2 ⟨⟨A3,n3,C3,rfl⟩,hb0⟩;have N:=(has2_new W1 (.slice none 0 0) (.slice none 0 0) 71).keep hb0;obtain⟨n0,n1,n2,n3,n4⟩:=id N;have hb1:=later (below_alloc (Below.refl W1.heap.size W1) (.cells #[.slice none 0 0,.slice none 0 0] 71)) hb0;replace hg:=hg.keep hb1;replace D:=D.keep hb1;replace R:=R.keep hb1;replace Q:=Q.keep hb1;replace HB:=later HB hb1;clear hb1;clear hb0 q0 q1 q2 q3 q4 ql;obtain⟨q0,q1,q2,q3,q4,ql⟩:=id Q))
 · have N:Has2 (W2.alloc (.cells #[.slice none 0 0,.slice none 0 0] 71)) W2.heap.size (.slice none 0 0) (.slice none 0 0):=has2_new _ _ _ _
   have hb1:Below W2.heap.size W2 (W2.alloc (.cells #[.slice none 0 0,.slice none 0 0] 71)):=by go_grown
   replace D:=D.keep hb1;replace R:=R.keep hb1;replace HB:=later HB hb1;clear hb1
   clear q0 q1 q2 q3 q4 ql Q
   generalize W2.alloc (.cells #[.slice none 0 0,.slice none 0 0] 71)=W3 at *
   generalize W2.heap.size=fb at *
   obtain⟨y0,y1,y2,y3,y4⟩:=id N
   obtain⟨x0,x1,x2,x3,x4⟩:=id D
   go_wp2_with (go_at_call 74;refine (sm_nil none 0 0 none 0 0 _).mono ?_;rintro _ W4 ⟨rfl,hb1⟩; replace R:=R.keep hb1;replace HB:=later HB hb1;clear hb1;clear x0 x1 x2 x3 x4 y0 y1 y2 y3 y4;obtain⟨r0,r1,r2,r3,r4⟩:=id R)
   refine bodyPost_ret (v:=.agg #[.slice none 0 0,.slice none 0 0]) (by simp [results,Tryz.results71,go_sem, *]) rfl ⟨rfl, ?_⟩
   repeat' (first | (with_reducible exact HB) | (with_reducible refine below_alloc ?_ _) | (with_reducible refine Below.setCell ?_ ?_ _) | go_size | omega)
 · replace D:=D.far2 (c:=W1.heap.size) (by omega) (.slice none 0 0) (.slice none 0 0)
   replace R:=R.far2 (c:=W1.heap.size) (by omega) (.slice none 0 0) (.slice none 0 0)
   replace HB:Below w.heap.size w ((W2.setCell ⟨W1.heap.size,0,none⟩ (.slice none 0 0)).setCell ⟨W1.heap.size,1,none⟩ (.slice none 0 0)):=(HB.setCell (by simp;omega) _).setCell (by simp;omega) _
   replace N:=N.put (.slice none 0 0) (.slice none 0 0)
   clear n0 n1 n2 n3 n4 q0 q1 q2 q3 q4 ql Q
   generalize (W2.setCell ⟨W1.heap.size,0,none⟩ (.slice none 0 0)).setCell ⟨W1.heap.size,1,none⟩ (.slice none 0 0)=W3 at *
   generalize W1.heap.size=fb at *
   obtain⟨y0,y1,y2,y3,y4⟩:=id N
   obtain⟨x0,x1,x2,x3,x4⟩:=id D
   go_wp2_with (go_at_call 74;refine (sm_nil none 0 0 none 0 0 _).mono ?_;rintro _ W4 ⟨rfl,hb1⟩; replace R:=R.keep hb1;replace HB:=later HB hb1;clear hb1;clear x0 x1 x2 x3 x4 y0 y1 y2 y3 y4;obtain⟨r0,r1,r2,r3,r4⟩:=id R)
   refine bodyPost_ret (v:=.agg #[.slice none 0 0,.slice none 0 0]) (by simp [results,Tryz.results71,go_sem, *]) rfl ⟨rfl, ?_⟩
   repeat' (first | (with_reducible exact HB) | (with_reducible refine below_alloc ?_ _) | (with_reducible refine Below.setCell ?_ ?_ _) | go_size | omega)
 · replace D:=D.far2 (c:=V1.heap.size) (by omega) (.slice none 0 0) (.slice none 0 0)
   replace R:=R.far2 (c:=V1.heap.size) (by omega) (.slice none 0 0) (.slice none 0 0)
   replace HB:Below w.heap.size w ((W2.setCell ⟨V1.heap.size,0,none⟩ (.slice none 0 0)).setCell ⟨V1.heap.size,1,none⟩ (.slice none 0 0)):=(HB.setCell (by simp;omega) _).setCell (by simp;omega) _
   replace N:=N.put (.slice none 0 0) (.slice none 0 0)
   clear n0 n1 n2 n3 n4 q0 q1 q2 q3 q4 ql Q
   generalize (W2.setCell ⟨V1.heap.size,0,none⟩ (.slice none 0 0)).setCell ⟨V1.heap.size,1,none⟩ (.slice none 0 0)=W3 at *
   generalize V1.heap.size=fb at *
   obtain⟨y0,y1,y2,y3,y4⟩:=id N
   obtain⟨x0,x1,x2,x3,x4⟩:=id D
   go_wp2_with (go_at_call 74;refine (sm_nil none 0 0 none 0 0 _).mono ?_;rintro _ W4 ⟨rfl,hb1⟩; replace R:=R.keep hb1;replace HB:=later HB hb1;clear hb1;clear x0 x1 x2 x3 x4 y0 y1 y2 y3 y4;obtain⟨r0,r1,r2,r3,r4⟩:=id R)
   refine bodyPost_ret (v:=.agg #[.slice none 0 0,.slice none 0 0]) (by simp [results,Tryz.results71,go_sem, *]) rfl ⟨rfl, ?_⟩
   repeat' (first | (with_reducible exact HB) | (with_reducible refine below_alloc ?_ _) | (with_reducible refine Below.setCell ?_ ?_ _) | go_size | omega)
theorem wid_w {q:Qst} {ok:OkF} {rt:RtF} {X:Nat→Nat×Nat} {w:World} (K:Ask q ok rt X w) (qb:Nat) (Q:HasQ w qb q) :
   Calls Tryz.prog 71 #[.agg #[.slice none 0 0,.slice none 0 0],.pointer (some ⟨qb,0,none⟩)] w fun e w'=>(∃v',e=.returned v'∧Bst q ok rt X (gdB q ok rt X (wdB X)) w' v')∧Below w.heap.size w w':=by
 have hF:∀i,i<q.k→W2 (wdB X i):=fun i hi=>wideQ_W2 (ivs_words K.begin i hi)
 have cW:=fun (W:World) (hW:Below w.heap.size w W)=>wide_w q.AX q.k q.CX X K.k24 W (K.begin.keep hW)
 cases hc:gdB q ok rt X (wdB X)
 · refine (wid_c0 q (wdB X) w qb Q cW (fun W g hW hI=>tried_no (K.keep hW) _ _ (hI.ivs hF) hc)).mono ?_
   rintro _ w' ⟨rfl,hb⟩
   exact⟨⟨_,rfl,Or.inl ⟨rfl,rfl⟩⟩,hb⟩
 · refine (wid_c1 q (wdB X) (rchB q rt X (wdB X)) K.k0 w qb Q cW (fun W g hW hI=>tried_yes (K.keep hW) _ _ (hI.ivs hF) hc)).mono ?_
   rintro _ w' ⟨⟨g,h,rfl,hg,hh⟩,hb⟩
   exact⟨⟨_,rfl,Or.inr ⟨g,q.k,h,wdB X,rfl,hg,hF,hh,hc,fun _=>allIn_refl _ _⟩⟩,hb⟩
def fnN (b:Nat):Value:=.func (.func 78) #[] #[.pointer (some ⟨b,0,none⟩)]
theorem mkW (q:Qst) (w:World):Calls Tryz.prog 46 #[q.val] w fun e w'=>(∃b,e=.returned (.func (.func 71) #[] #[.pointer (some ⟨b,0,none⟩)])∧HasQ w' b q)∧Below w.heap.size w w':=by
 have T:=hasQ_new w q
 unfold Qst.val
 go_enter Tryz.func46,Tryz.ntmps46
 go_wp2_with fail
 go_ret
 exact⟨⟨_,rfl,T⟩,by go_grown⟩
theorem mkG (q:Qst) (w:World):Calls Tryz.prog 47 #[q.val] w fun e w'=>(∃b,e=.returned (.func (.func 75) #[] #[.pointer (some ⟨b,0,none⟩)])∧HasQ w' b q)∧Below w.heap.size w w':=by
 have T:=hasQ_new w q
 unfold Qst.val
 go_enter Tryz.func47,Tryz.ntmps47
 go_wp2_with fail
 go_ret
 exact⟨⟨_,rfl,T⟩,by go_grown⟩
theorem mkN (q:Qst) (w:World):Calls Tryz.prog 48 #[q.val] w fun e w'=>(∃b,e=.returned (.func (.func 78) #[] #[.pointer (some ⟨b,0,none⟩)])∧HasQ w' b q)∧Below w.heap.size w w':=by
 have T:=hasQ_new w q
 unfold Qst.val
 go_enter Tryz.func48,Tryz.ntmps48
 go_wp2_with fail
 go_ret
 exact⟨⟨_,rfl,T⟩,by go_grown⟩
def OwnF (B:Nat) (w:World) (v:Value) (vs:List Value):Prop:=w.ownsRow B 67 1 v vs.length vs
theorem Tryz.infoTry:(Tryz.prog.info? 67).map (fun i=>(i.zero,i.size,i.bytes))=some (some .nilFunc,1,8):=by kernel_rfl
theorem OwnF.keep {B:Nat} {w w2:World} {v:Value} {vs:List Value} (h:OwnF B w v vs) (hb:Below w.heap.size w w2):OwnF B w2 v vs:=by
 refine⟨h.1, ?_⟩
 rcases h.2 with hn | ⟨g,cap,cur,hv,hb2,hg,rest⟩
 · exact .inl hn
 · have hlt:g<w.heap.size:=(Array.getElem?_eq_some_iff.1 hg).1
   exact .inr ⟨g,cap,cur,hv,hb2,(hb.block g hlt).trans hg,rest⟩
theorem ownF_two (w:World) (B:Nat) (hB:B≤w.heap.size) (f g:Value):OwnF B (w.alloc (.cells #[f,g] 67)) (.slice (some ⟨w.heap.size,0,none⟩) 2 2) [f,g] :=
 ⟨rfl,.inr ⟨w.heap.size,2,#[f,g],rfl,hB,heap_alloc_new w _,Nat.le_refl _,by unfold maxLen;omega,rfl,rfl⟩⟩
theorem HasQ.of {w w2:World} {b:Nat} {q:Qst} (h:HasQ w b q) (hs:w.heap.size≤w2.heap.size) (hb:w2.heap[b]?=w.heap[b]?):HasQ w2 b q :=
 ⟨(World.cell?_of_block (w:=w) hb).trans h.c0,(World.cell?_of_block (w:=w) hb).trans h.c1,(World.cell?_of_block (w:=w) hb).trans h.c2,(World.cell?_of_block (w:=w) hb).trans h.c3,(World.cell?_of_block (w:=w) hb).trans h.c4,Nat.lt_of_lt_of_le h.lt hs⟩
theorem OwnF.ne {B:Nat} {w:World} {v:Value} {f:Fn} {t cs:Array Value} {vs:List Value} (h:OwnF B w v (.func f t cs :: vs)) {b:Nat} {q:Qst} (hq:HasQ w b q):v.ownBlock≠some b:=by
 intro e
 have h':w.ownsRow B 67 1 v (vs.length+1) (.func f t cs :: vs):=h
 rcases id h'.2 with ⟨rfl,hn⟩ | ⟨g,cap,cur,rfl, -⟩
 · omega
 · have:g=b:=by simpa [Value.ownBlock] using e
   subst this
   have c:=World.ownsRow.cellAt h' 0 (by omega)
   rw [hq.c0] at c
   simp at c
theorem wpList_pushF {B:Nat} {w0 wr:World} {ops:Array Oper} {rest:List Oper} {o:Oper} {a:Act} {Q:Exit→Act→World→Prop} (hgd:o.guard=none) (s x:Operand)
   (ho:o.op=.call { callee:=.builtin .append,args:=#[s,x],argTypes:=#[69,69] }) (v:Value) (vs:List Value) (f f0:Fn) (t t0 c c0:Array Value) (hs:a.eval s=v) (hx:a.eval x=.slice (some ⟨wr.heap.size,0,none⟩) 1 1)
   (hown:OwnF B wr v (.func f0 t0 c0 :: vs)) (hl:vs.length≤2000000) (hB:B≤wr.heap.size) (hbel:Below B w0 wr)
   (h:∀v' w',OwnF B w' v' (.func f0 t0 c0 :: vs++[.func f t c])→Below B w0 w'→B≤w'.heap.size→(∀b q,HasQ wr b q→HasQ w' b q)→wpList Tryz.prog ops Q rest (a.put o.dst v') w'):wpList Tryz.prog ops Q (o :: rest) a (wr.alloc (.cells #[.func f t c] 67)):=by
 obtain⟨i0,hi,hz0,hz1,hz2⟩:=info_parts Tryz.infoTry
 have hal:Below wr.heap.size wr (wr.alloc (.cells #[.func f t c] 67)):=(Below.refl _ _).alloc (Nat.le_refl _) _
 refine wpList_append_own _ hgd s x 69 ho B 67 i0 .nilFunc 1 8 Tryz.underlying69 hi hz0 hz1 hz2 rfl (by decide) v (vs.length+1) (.func f0 t0 c0 :: vs) hs (hown.keep hal) ⟨wr.heap.size,0,none⟩ 1 1 [.func f t c] hx rfl ?_ ?_ (by unfold maxLen;omega) (by omega) (by simp;omega) ?_
 · intro j u hj
   match j,hj with
   | 0,hj=>simp at hj;subst hj;simp [Addr.add]
 · intro u hu
   simp at hu
   rw [hu]
   rfl
 · intro v' w' h1 h2 _
   refine h v' w' ?_ ((hbel.alloc hB _).grown h2 (by simp;omega) ?_) (by have:=h2.size;simp at this;omega) fun b q hq=>?_
   · unfold OwnF
     rw [List.length_append]
     exact h1
   · intro k hk
     exact (World.ownsRow.lt hown k hk).1
   · have hq':=hq.keep hal
     exact hq'.of h2.size (h2.block b hq'.lt (fun e=>(hown.keep hal).ne hq' e.symm))
end Go.Proofs.YtnnfafilgiajoaaGreat
