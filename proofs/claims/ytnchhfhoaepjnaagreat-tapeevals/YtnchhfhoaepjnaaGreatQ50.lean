/- An operation's value, the laws' way: Basic and value, kind by kind. -/
import Derived.Test.YtnchhfhoaepjnaaGreatQ49
import Derived.Test.YtnchhfhoaepjnaaGreatQ21
import Derived.Test.YtnchhfhoaepjnaaGreatQ41
namespace Go.Proofs.YtnchhfhoaepjnaaGreat
open Go.ChangeShapes Go.WideShapes Go.ChangeAt Go.RowKit
set_option maxHeartbeats 1000000 in
theorem ba_1 (oa ob n:Int) (l a b:Nat×Nat) (xs:Value) (w:World):Calls Tryz.prog 45 #[.agg #[.int .i64 1,.int .i64 oa,.int .i64 ob,.int .i64 n,.float .f64 l.1,.float .f64 l.2],.agg #[.float .f64 a.1,.float .f64 a.2],.agg #[.float .f64 b.1,.float .f64 b.2],xs] w fun e w'=>e=.returned (.tuple #[.agg #[.float .f64 l.1,.float .f64 l.2],.bool true])∧Below w.heap.size w w':=by
 obtain⟨O,X,Y,R,HB⟩:=enterO w 1 oa ob n l a b
 go_enter Tryz.func45,Tryz.ntmps45
 go_upto_region 1 with fail
 generalize ((((w.alloc (.cells #[.int .i64 1,.int .i64 oa,.int .i64 ob,.int .i64 n,.float .f64 l.1,.float .f64 l.2] 48)).alloc (.cells #[.float .f64 a.1,.float .f64 a.2] 46)).alloc (.cells #[.float .f64 b.1,.float .f64 b.2] 46)).alloc (.cells #[.float .f64 0,.float .f64 0] 46))=V1 at *
 obtain⟨o0,o1,o2,o3,o4,o5,ol⟩:=id O
 obtain⟨p0,p1,p2,p3,p4⟩:=id X
 obtain⟨q0,q1,q2,q3,q4⟩:=id Y
 obtain⟨k0,k1,k2,k3,k4⟩:=id R
 go_wp2_with fail
 refine bodyPost_ret (v:=.tuple #[.agg #[.float .f64 l.1,.float .f64 l.2],.bool true]) (by simp [results,Tryz.results45,go_sem, *]) rfl ⟨rfl, ?_⟩;repeat' (first | (with_reducible exact HB) | (with_reducible refine Below.setCell ?_ ?_ _) | go_size)
set_option maxHeartbeats 1000000 in
theorem ba_2 (oa ob:Int) (i m C xb xo:Nat) (l a b s:Nat×Nat) (hi:i<m) (w:World) (hb:xb<w.heap.size) (x0:w.cell? ⟨xb,xo+i*2,none⟩=some (.float .f64 s.1)) (x1:w.cell? ⟨xb,xo+i*2+1,none⟩=some (.float .f64 s.2)):Calls Tryz.prog 45 #[.agg #[.int .i64 2,.int .i64 oa,.int .i64 ob,.int .i64 (i:Int),.float .f64 l.1,.float .f64 l.2],.agg #[.float .f64 a.1,.float .f64 a.2],.agg #[.float .f64 b.1,.float .f64 b.2],.slice (some ⟨xb,xo,none⟩) m C] w fun e w'=>e=.returned (.tuple #[.agg #[.float .f64 s.1,.float .f64 s.2],.bool true])∧Below w.heap.size w w':=by
 obtain⟨O,X,Y,R,HB⟩:=enterO w 2 oa ob (i:Int) l a b
 go_enter Tryz.func45,Tryz.ntmps45
 go_upto_region 1 with fail
 replace x0:=keepsC HB x0 hb
 replace x1:=keepsC HB x1 hb
 replace hb:=Nat.lt_of_lt_of_le hb HB.size
 generalize ((((w.alloc (.cells #[.int .i64 2,.int .i64 oa,.int .i64 ob,.int .i64 (i:Int),.float .f64 l.1,.float .f64 l.2] 48)).alloc (.cells #[.float .f64 a.1,.float .f64 a.2] 46)).alloc (.cells #[.float .f64 b.1,.float .f64 b.2] 46)).alloc (.cells #[.float .f64 0,.float .f64 0] 46))=V1 at *
 obtain⟨o0,o1,o2,o3,o4,o5,ol⟩:=id O
 obtain⟨p0,p1,p2,p3,p4⟩:=id X
 obtain⟨q0,q1,q2,q3,q4⟩:=id Y
 obtain⟨k0,k1,k2,k3,k4⟩:=id R
 go_wp2_with fail
 refine bodyPost_ret (v:=.tuple #[.agg #[.float .f64 s.1,.float .f64 s.2],.bool true]) (by simp [results,Tryz.results45,go_sem, *]) rfl ⟨rfl, ?_⟩;repeat' (first | (with_reducible exact HB) | (with_reducible refine Below.setCell ?_ ?_ _) | go_size)
set_option maxHeartbeats 1000000 in
theorem ba_3 (oa ob n:Int) (l a b s:Nat×Nat) (xs:Value) (c1:∀w,Calls Tryz.prog 49 #[.agg #[.float .f64 a.1,.float .f64 a.2],.agg #[.float .f64 b.1,.float .f64 b.2]] w fun e w'=>e=.returned (.agg #[.float .f64 s.1,.float .f64 s.2])∧Below w.heap.size w w') (w:World):Calls Tryz.prog 45 #[.agg #[.int .i64 3,.int .i64 oa,.int .i64 ob,.int .i64 n,.float .f64 l.1,.float .f64 l.2],.agg #[.float .f64 a.1,.float .f64 a.2],.agg #[.float .f64 b.1,.float .f64 b.2],xs] w fun e w'=>e=.returned (.tuple #[.agg #[.float .f64 s.1,.float .f64 s.2],.bool true])∧Below w.heap.size w w':=by
 obtain⟨O,X,Y,R,HB⟩:=enterO w 3 oa ob n l a b
 go_enter Tryz.func45,Tryz.ntmps45
 go_upto_region 1 with fail
 generalize ((((w.alloc (.cells #[.int .i64 3,.int .i64 oa,.int .i64 ob,.int .i64 n,.float .f64 l.1,.float .f64 l.2] 48)).alloc (.cells #[.float .f64 a.1,.float .f64 a.2] 46)).alloc (.cells #[.float .f64 b.1,.float .f64 b.2] 46)).alloc (.cells #[.float .f64 0,.float .f64 0] 46))=V1 at *
 obtain⟨o0,o1,o2,o3,o4,o5,ol⟩:=id O
 obtain⟨p0,p1,p2,p3,p4⟩:=id X
 obtain⟨q0,q1,q2,q3,q4⟩:=id Y
 go_wp2_with (go_at_call 49;refine (c1 _).mono ?_;rintro _ V3 ⟨rfl,hb1⟩;replace R:=R.keep hb1;replace HB:=later HB hb1;clear hb1;obtain⟨k0,k1,k2,k3,k4⟩:=id R)
 refine bodyPost_ret (v:=.tuple #[.agg #[.float .f64 s.1,.float .f64 s.2],.bool true]) (by simp [results,Tryz.results45,go_sem, *]) rfl ⟨rfl, ?_⟩;repeat' (first | (with_reducible exact HB) | (with_reducible refine Below.setCell ?_ ?_ _) | go_size)
set_option maxHeartbeats 1000000 in
theorem ba_4 (oa ob n:Int) (l a b s:Nat×Nat) (xs:Value) (c1:∀w,Calls Tryz.prog 50 #[.agg #[.float .f64 a.1,.float .f64 a.2],.agg #[.float .f64 b.1,.float .f64 b.2]] w fun e w'=>e=.returned (.agg #[.float .f64 s.1,.float .f64 s.2])∧Below w.heap.size w w') (w:World):Calls Tryz.prog 45 #[.agg #[.int .i64 4,.int .i64 oa,.int .i64 ob,.int .i64 n,.float .f64 l.1,.float .f64 l.2],.agg #[.float .f64 a.1,.float .f64 a.2],.agg #[.float .f64 b.1,.float .f64 b.2],xs] w fun e w'=>e=.returned (.tuple #[.agg #[.float .f64 s.1,.float .f64 s.2],.bool true])∧Below w.heap.size w w':=by
 obtain⟨O,X,Y,R,HB⟩:=enterO w 4 oa ob n l a b
 go_enter Tryz.func45,Tryz.ntmps45
 go_upto_region 1 with fail
 generalize ((((w.alloc (.cells #[.int .i64 4,.int .i64 oa,.int .i64 ob,.int .i64 n,.float .f64 l.1,.float .f64 l.2] 48)).alloc (.cells #[.float .f64 a.1,.float .f64 a.2] 46)).alloc (.cells #[.float .f64 b.1,.float .f64 b.2] 46)).alloc (.cells #[.float .f64 0,.float .f64 0] 46))=V1 at *
 obtain⟨o0,o1,o2,o3,o4,o5,ol⟩:=id O
 obtain⟨p0,p1,p2,p3,p4⟩:=id X
 obtain⟨q0,q1,q2,q3,q4⟩:=id Y
 go_wp2_with (go_at_call 50;refine (c1 _).mono ?_;rintro _ V3 ⟨rfl,hb1⟩;replace R:=R.keep hb1;replace HB:=later HB hb1;clear hb1;obtain⟨k0,k1,k2,k3,k4⟩:=id R)
 refine bodyPost_ret (v:=.tuple #[.agg #[.float .f64 s.1,.float .f64 s.2],.bool true]) (by simp [results,Tryz.results45,go_sem, *]) rfl ⟨rfl, ?_⟩;repeat' (first | (with_reducible exact HB) | (with_reducible refine Below.setCell ?_ ?_ _) | go_size)
set_option maxHeartbeats 1000000 in
theorem ba_5 (oa ob n:Int) (l a b s:Nat×Nat) (xs:Value) (c1:∀w,Calls Tryz.prog 51 #[.agg #[.float .f64 a.1,.float .f64 a.2],.agg #[.float .f64 b.1,.float .f64 b.2]] w fun e w'=>e=.returned (.agg #[.float .f64 s.1,.float .f64 s.2])∧Below w.heap.size w w') (w:World):Calls Tryz.prog 45 #[.agg #[.int .i64 5,.int .i64 oa,.int .i64 ob,.int .i64 n,.float .f64 l.1,.float .f64 l.2],.agg #[.float .f64 a.1,.float .f64 a.2],.agg #[.float .f64 b.1,.float .f64 b.2],xs] w fun e w'=>e=.returned (.tuple #[.agg #[.float .f64 s.1,.float .f64 s.2],.bool true])∧Below w.heap.size w w':=by
 obtain⟨O,X,Y,R,HB⟩:=enterO w 5 oa ob n l a b
 go_enter Tryz.func45,Tryz.ntmps45
 go_upto_region 1 with fail
 generalize ((((w.alloc (.cells #[.int .i64 5,.int .i64 oa,.int .i64 ob,.int .i64 n,.float .f64 l.1,.float .f64 l.2] 48)).alloc (.cells #[.float .f64 a.1,.float .f64 a.2] 46)).alloc (.cells #[.float .f64 b.1,.float .f64 b.2] 46)).alloc (.cells #[.float .f64 0,.float .f64 0] 46))=V1 at *
 obtain⟨o0,o1,o2,o3,o4,o5,ol⟩:=id O
 obtain⟨p0,p1,p2,p3,p4⟩:=id X
 obtain⟨q0,q1,q2,q3,q4⟩:=id Y
 go_wp2_with (go_at_call 51;refine (c1 _).mono ?_;rintro _ V3 ⟨rfl,hb1⟩;replace R:=R.keep hb1;replace HB:=later HB hb1;clear hb1;obtain⟨k0,k1,k2,k3,k4⟩:=id R)
 refine bodyPost_ret (v:=.tuple #[.agg #[.float .f64 s.1,.float .f64 s.2],.bool true]) (by simp [results,Tryz.results45,go_sem, *]) rfl ⟨rfl, ?_⟩;repeat' (first | (with_reducible exact HB) | (with_reducible refine Below.setCell ?_ ?_ _) | go_size)
set_option maxHeartbeats 1000000 in
theorem ba_6 (oa ob n:Int) (l a b s:Nat×Nat) (xs:Value) (c1:∀w,Calls Tryz.prog 52 #[.agg #[.float .f64 a.1,.float .f64 a.2],.agg #[.float .f64 b.1,.float .f64 b.2]] w fun e w'=>e=.returned (.agg #[.float .f64 s.1,.float .f64 s.2])∧Below w.heap.size w w') (t:Bool) (c2:∀w,Calls Tryz.prog 22 #[.agg #[.float .f64 b.1,.float .f64 b.2],.float .f64 0] w fun e w'=>e=.returned (.bool t)∧Below w.heap.size w w') (w:World):Calls Tryz.prog 45 #[.agg #[.int .i64 6,.int .i64 oa,.int .i64 ob,.int .i64 n,.float .f64 l.1,.float .f64 l.2],.agg #[.float .f64 a.1,.float .f64 a.2],.agg #[.float .f64 b.1,.float .f64 b.2],xs] w fun e w'=>e=.returned (.tuple #[.agg #[.float .f64 s.1,.float .f64 s.2],.bool (!t)])∧Below w.heap.size w w':=by
 obtain⟨O,X,Y,R,HB⟩:=enterO w 6 oa ob n l a b
 go_enter Tryz.func45,Tryz.ntmps45
 go_upto_region 1 with fail
 generalize ((((w.alloc (.cells #[.int .i64 6,.int .i64 oa,.int .i64 ob,.int .i64 n,.float .f64 l.1,.float .f64 l.2] 48)).alloc (.cells #[.float .f64 a.1,.float .f64 a.2] 46)).alloc (.cells #[.float .f64 b.1,.float .f64 b.2] 46)).alloc (.cells #[.float .f64 0,.float .f64 0] 46))=V1 at *
 obtain⟨o0,o1,o2,o3,o4,o5,ol⟩:=id O
 obtain⟨p0,p1,p2,p3,p4⟩:=id X
 obtain⟨q0,q1,q2,q3,q4⟩:=id Y
 go_upto_region 13 with fail
 clear o0 o1 o2 o3 o4 o5 ol p0 p1 p2 p3 p4 q0 q1 q2 q3 q4
 have RR:=R
 apply tail_store 6 (w.heap.size+1+1+1) _ _ (.float .f64 s.1) (.float .f64 s.2) (by kernel_rfl) (by kernel_rfl) rfl R
 · intro W1 hW hsW
   replace X:=X.keepB hW (by omega) hsW
   replace Y:=Y.keepB hW (by omega) hsW
   have o3:W1.cell? ⟨w.heap.size,3,none⟩=some (.int .i64 n):=(hW.cell (p:=⟨w.heap.size,3,none⟩) (by simp;omega)).trans O.c3
   have ol:w.heap.size<W1.heap.size:=Nat.lt_of_lt_of_le O.lt hsW
   have kX0:=fun n:Behind W1=>n.cell X.1 X.2.2.2.2;have kX1:=fun n:Behind W1=>n.cell X.2.1 X.2.2.2.2;have kY0:=fun n:Behind W1=>n.cell Y.1 Y.2.2.2.2;have kY1:=fun n:Behind W1=>n.cell Y.2.1 Y.2.2.2.2
   have kO3:=fun n:Behind W1=>n.cell o3 ol
   simp only [List.take_succ_cons,List.take_zero]
   repeat (go_big_quiet_step (first | (go_at_call 52;with_reducible refine Behind.call (c1 _)) | (go_at_call 22;with_reducible refine Behind.call (c2 _))))
   exact wpQuiet_nil rfl
 · intro W hW
   obtain⟨k0,k1,k2,k3,k4⟩:=hW
   simp [execOp,Act.eval,go_sem, *]
 intro W hW hsW R2
 replace HB:Below w.heap.size w W:=HB.trans (hW.mono (by omega))
 obtain⟨k0,k1,k2,k3,k4⟩:=id R2
 simp only [List.drop_succ_cons,List.drop_zero]
 go_wp2_with fail
 refine bodyPost_ret (v:=.tuple #[.agg #[.float .f64 s.1,.float .f64 s.2],.bool (!t)]) (by simp [results,Tryz.results45,go_sem, *]) rfl ⟨rfl, ?_⟩;repeat' (first | (with_reducible exact HB) | (with_reducible refine Below.setCell ?_ ?_ _) | go_size)
set_option maxHeartbeats 1000000 in
theorem ba_7 (oa ob n:Int) (l a b s:Nat×Nat) (xs:Value) (c1:∀w,Calls Tryz.prog 53 #[.agg #[.float .f64 a.1,.float .f64 a.2]] w fun e w'=>e=.returned (.agg #[.float .f64 s.1,.float .f64 s.2])∧Below w.heap.size w w') (w:World):Calls Tryz.prog 45 #[.agg #[.int .i64 7,.int .i64 oa,.int .i64 ob,.int .i64 n,.float .f64 l.1,.float .f64 l.2],.agg #[.float .f64 a.1,.float .f64 a.2],.agg #[.float .f64 b.1,.float .f64 b.2],xs] w fun e w'=>e=.returned (.tuple #[.agg #[.float .f64 s.1,.float .f64 s.2],.bool true])∧Below w.heap.size w w':=by
 obtain⟨O,X,Y,R,HB⟩:=enterO w 7 oa ob n l a b
 go_enter Tryz.func45,Tryz.ntmps45
 go_upto_region 1 with fail
 generalize ((((w.alloc (.cells #[.int .i64 7,.int .i64 oa,.int .i64 ob,.int .i64 n,.float .f64 l.1,.float .f64 l.2] 48)).alloc (.cells #[.float .f64 a.1,.float .f64 a.2] 46)).alloc (.cells #[.float .f64 b.1,.float .f64 b.2] 46)).alloc (.cells #[.float .f64 0,.float .f64 0] 46))=V1 at *
 obtain⟨o0,o1,o2,o3,o4,o5,ol⟩:=id O
 obtain⟨p0,p1,p2,p3,p4⟩:=id X
 obtain⟨q0,q1,q2,q3,q4⟩:=id Y
 go_wp2_with (go_at_call 53;refine (c1 _).mono ?_;rintro _ V3 ⟨rfl,hb1⟩;replace R:=R.keep hb1;replace HB:=later HB hb1;clear hb1;obtain⟨k0,k1,k2,k3,k4⟩:=id R)
 refine bodyPost_ret (v:=.tuple #[.agg #[.float .f64 s.1,.float .f64 s.2],.bool true]) (by simp [results,Tryz.results45,go_sem, *]) rfl ⟨rfl, ?_⟩;repeat' (first | (with_reducible exact HB) | (with_reducible refine Below.setCell ?_ ?_ _) | go_size)
set_option maxHeartbeats 1000000 in
theorem ba_8 (oa ob n:Int) (l a b s:Nat×Nat) (xs:Value) (c1:∀w,Calls Tryz.prog 54 #[.agg #[.float .f64 a.1,.float .f64 a.2],.int .i64 n] w fun e w'=>e=.returned (.agg #[.float .f64 s.1,.float .f64 s.2])∧Below w.heap.size w w') (t:Bool) (c2:n<0→∀w,Calls Tryz.prog 22 #[.agg #[.float .f64 a.1,.float .f64 a.2],.float .f64 0] w fun e w'=>e=.returned (.bool t)∧Below w.heap.size w w') (h0:¬n<0→t=false) (w:World):Calls Tryz.prog 45 #[.agg #[.int .i64 8,.int .i64 oa,.int .i64 ob,.int .i64 n,.float .f64 l.1,.float .f64 l.2],.agg #[.float .f64 a.1,.float .f64 a.2],.agg #[.float .f64 b.1,.float .f64 b.2],xs] w fun e w'=>e=.returned (.tuple #[.agg #[.float .f64 s.1,.float .f64 s.2],.bool (!t)])∧Below w.heap.size w w':=by
 by_cases hn:n<0
 · replace c2:=c2 hn
   have hg:decide (0≤n)=false:=decide_eq_false (by omega)
   obtain⟨O,X,Y,R,HB⟩:=enterO w 8 oa ob n l a b
   go_enter Tryz.func45,Tryz.ntmps45
   go_upto_region 1 with fail
   generalize ((((w.alloc (.cells #[.int .i64 8,.int .i64 oa,.int .i64 ob,.int .i64 n,.float .f64 l.1,.float .f64 l.2] 48)).alloc (.cells #[.float .f64 a.1,.float .f64 a.2] 46)).alloc (.cells #[.float .f64 b.1,.float .f64 b.2] 46)).alloc (.cells #[.float .f64 0,.float .f64 0] 46))=V1 at *
   obtain⟨o0,o1,o2,o3,o4,o5,ol⟩:=id O
   obtain⟨p0,p1,p2,p3,p4⟩:=id X
   obtain⟨q0,q1,q2,q3,q4⟩:=id Y
   go_upto_region 17 with fail
   clear o0 o1 o2 o3 o4 o5 ol p0 p1 p2 p3 p4 q0 q1 q2 q3 q4
   have RR:=R
   apply tail_store 12 (w.heap.size+1+1+1) _ _ (.float .f64 s.1) (.float .f64 s.2) (by kernel_rfl) (by kernel_rfl) rfl R
   · intro W1 hW hsW
     replace X:=X.keepB hW (by omega) hsW
     replace Y:=Y.keepB hW (by omega) hsW
     have o3:W1.cell? ⟨w.heap.size,3,none⟩=some (.int .i64 n):=(hW.cell (p:=⟨w.heap.size,3,none⟩) (by simp;omega)).trans O.c3
     have ol:w.heap.size<W1.heap.size:=Nat.lt_of_lt_of_le O.lt hsW
     have kX0:=fun n:Behind W1=>n.cell X.1 X.2.2.2.2;have kX1:=fun n:Behind W1=>n.cell X.2.1 X.2.2.2.2;have kY0:=fun n:Behind W1=>n.cell Y.1 Y.2.2.2.2;have kY1:=fun n:Behind W1=>n.cell Y.2.1 Y.2.2.2.2
     have kO3:=fun n:Behind W1=>n.cell o3 ol
     simp only [List.take_succ_cons,List.take_zero]
     repeat (go_big_quiet_step (first | (go_at_call 54;with_reducible refine Behind.call (c1 _)) | (go_at_call 22;with_reducible refine Behind.call (c2 _))))
     exact wpQuiet_nil rfl
   · intro W hW
     obtain⟨k0,k1,k2,k3,k4⟩:=hW
     simp [execOp,Act.eval,go_sem, *]
   intro W hW hsW R2
   replace HB:Below w.heap.size w W:=HB.trans (hW.mono (by omega))
   obtain⟨k0,k1,k2,k3,k4⟩:=id R2
   simp only [List.drop_succ_cons,List.drop_zero]
   go_wp2_with fail
   refine bodyPost_ret (v:=.tuple #[.agg #[.float .f64 s.1,.float .f64 s.2],.bool (!t)]) (by simp [results,Tryz.results45,go_sem, *]) rfl ⟨rfl, ?_⟩;repeat' (first | (with_reducible exact HB) | (with_reducible refine Below.setCell ?_ ?_ _) | go_size)
 · obtain rfl:=h0 hn
   clear c2 h0
   have hg:decide (0≤n)=true:=decide_eq_true (by omega)
   obtain⟨O,X,Y,R,HB⟩:=enterO w 8 oa ob n l a b
   go_enter Tryz.func45,Tryz.ntmps45
   go_upto_region 1 with fail
   generalize ((((w.alloc (.cells #[.int .i64 8,.int .i64 oa,.int .i64 ob,.int .i64 n,.float .f64 l.1,.float .f64 l.2] 48)).alloc (.cells #[.float .f64 a.1,.float .f64 a.2] 46)).alloc (.cells #[.float .f64 b.1,.float .f64 b.2] 46)).alloc (.cells #[.float .f64 0,.float .f64 0] 46))=V1 at *
   obtain⟨o0,o1,o2,o3,o4,o5,ol⟩:=id O
   obtain⟨p0,p1,p2,p3,p4⟩:=id X
   obtain⟨q0,q1,q2,q3,q4⟩:=id Y
   go_upto_region 17 with fail
   clear o0 o1 o2 o3 o4 o5 ol p0 p1 p2 p3 p4 q0 q1 q2 q3 q4
   have RR:=R
   apply tail_store 12 (w.heap.size+1+1+1) _ _ (.float .f64 s.1) (.float .f64 s.2) (by kernel_rfl) (by kernel_rfl) rfl R
   · intro W1 hW hsW
     replace X:=X.keepB hW (by omega) hsW
     replace Y:=Y.keepB hW (by omega) hsW
     have o3:W1.cell? ⟨w.heap.size,3,none⟩=some (.int .i64 n):=(hW.cell (p:=⟨w.heap.size,3,none⟩) (by simp;omega)).trans O.c3
     have ol:w.heap.size<W1.heap.size:=Nat.lt_of_lt_of_le O.lt hsW
     have kX0:=fun n:Behind W1=>n.cell X.1 X.2.2.2.2;have kX1:=fun n:Behind W1=>n.cell X.2.1 X.2.2.2.2;have kY0:=fun n:Behind W1=>n.cell Y.1 Y.2.2.2.2;have kY1:=fun n:Behind W1=>n.cell Y.2.1 Y.2.2.2.2
     have kO3:=fun n:Behind W1=>n.cell o3 ol
     simp only [List.take_succ_cons,List.take_zero]
     repeat (go_big_quiet_step (first | (go_at_call 54;with_reducible refine Behind.call (c1 _))))
     exact wpQuiet_nil rfl
   · intro W hW
     obtain⟨k0,k1,k2,k3,k4⟩:=hW
     simp [execOp,Act.eval,go_sem, *]
   intro W hW hsW R2
   replace HB:Below w.heap.size w W:=HB.trans (hW.mono (by omega))
   obtain⟨k0,k1,k2,k3,k4⟩:=id R2
   simp only [List.drop_succ_cons,List.drop_zero]
   go_wp2_with fail
   refine bodyPost_ret (v:=.tuple #[.agg #[.float .f64 s.1,.float .f64 s.2],.bool true]) (by simp [results,Tryz.results45,go_sem, *]) rfl ⟨rfl, ?_⟩;repeat' (first | (with_reducible exact HB) | (with_reducible refine Below.setCell ?_ ?_ _) | go_size)
set_option maxHeartbeats 1000000 in
theorem ba_9 (oa ob n:Int) (l a b s:Nat×Nat) (xs:Value) (c1:∀w,Calls Tryz.prog 87 #[.agg #[.float .f64 a.1,.float .f64 a.2]] w fun e w'=>e=.returned (.agg #[.float .f64 s.1,.float .f64 s.2])∧Below w.heap.size w w') (t:Bool) (o:(FloatKind.f64.format.order a.1 0==some .gt || FloatKind.f64.format.order a.1 0==some .eq)=t) (w:World):Calls Tryz.prog 45 #[.agg #[.int .i64 9,.int .i64 oa,.int .i64 ob,.int .i64 n,.float .f64 l.1,.float .f64 l.2],.agg #[.float .f64 a.1,.float .f64 a.2],.agg #[.float .f64 b.1,.float .f64 b.2],xs] w fun e w'=>e=.returned (.tuple #[.agg #[.float .f64 s.1,.float .f64 s.2],.bool t])∧Below w.heap.size w w':=by
 obtain⟨O,X,Y,R,HB⟩:=enterO w 9 oa ob n l a b
 go_enter Tryz.func45,Tryz.ntmps45
 go_upto_region 1 with fail
 generalize ((((w.alloc (.cells #[.int .i64 9,.int .i64 oa,.int .i64 ob,.int .i64 n,.float .f64 l.1,.float .f64 l.2] 48)).alloc (.cells #[.float .f64 a.1,.float .f64 a.2] 46)).alloc (.cells #[.float .f64 b.1,.float .f64 b.2] 46)).alloc (.cells #[.float .f64 0,.float .f64 0] 46))=V1 at *
 obtain⟨o0,o1,o2,o3,o4,o5,ol⟩:=id O
 obtain⟨p0,p1,p2,p3,p4⟩:=id X
 obtain⟨q0,q1,q2,q3,q4⟩:=id Y
 go_upto_region 18 with fail
 clear o0 o1 o2 o3 o4 o5 ol p0 p1 p2 p3 p4 q0 q1 q2 q3 q4
 have RR:=R
 apply tail_store 5 (w.heap.size+1+1+1) _ _ (.float .f64 s.1) (.float .f64 s.2) (by kernel_rfl) (by kernel_rfl) rfl R
 · intro W1 hW hsW
   replace X:=X.keepB hW (by omega) hsW
   replace Y:=Y.keepB hW (by omega) hsW
   have o3:W1.cell? ⟨w.heap.size,3,none⟩=some (.int .i64 n):=(hW.cell (p:=⟨w.heap.size,3,none⟩) (by simp;omega)).trans O.c3
   have ol:w.heap.size<W1.heap.size:=Nat.lt_of_lt_of_le O.lt hsW
   have kX0:=fun n:Behind W1=>n.cell X.1 X.2.2.2.2;have kX1:=fun n:Behind W1=>n.cell X.2.1 X.2.2.2.2;have kY0:=fun n:Behind W1=>n.cell Y.1 Y.2.2.2.2;have kY1:=fun n:Behind W1=>n.cell Y.2.1 Y.2.2.2.2
   have kO3:=fun n:Behind W1=>n.cell o3 ol
   simp only [List.take_succ_cons,List.take_zero]
   repeat (go_big_quiet_step (first | (go_at_call 87;with_reducible refine Behind.call (c1 _))))
   exact wpQuiet_nil rfl
 · intro W hW
   obtain⟨k0,k1,k2,k3,k4⟩:=hW
   simp [execOp,Act.eval,go_sem, *]
 intro W hW hsW R2
 replace HB:Below w.heap.size w W:=HB.trans (hW.mono (by omega))
 obtain⟨k0,k1,k2,k3,k4⟩:=id R2
 simp only [List.drop_succ_cons,List.drop_zero]
 go_wp2_with fail
 refine bodyPost_ret (v:=.tuple #[.agg #[.float .f64 s.1,.float .f64 s.2],.bool t]) (by simp [results,Tryz.results45,go_sem, *]) rfl ⟨rfl, ?_⟩;repeat' (first | (with_reducible exact HB) | (with_reducible refine Below.setCell ?_ ?_ _) | go_size)
end Go.Proofs.YtnchhfhoaepjnaaGreat
