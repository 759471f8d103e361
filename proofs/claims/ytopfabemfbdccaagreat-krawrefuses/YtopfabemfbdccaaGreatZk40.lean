/- Slopes: the operands' rows; closures that hold an operation, or another rule. Slopes: a rule behind another. -/
import Derived.Test.YtopfabemfbdccaaGreatZk27
import Derived.Test.YtopfabemfbdccaaGreatZk34
import Derived.Test.YtopfabemfbdccaaGreatZk15
namespace Go.Proofs.YtopfabemfbdccaaGreat
open Go.ChangeShapes Go.WideShapes Go.ChangeAt Go.RowKit
set_option maxHeartbeats 1000000 in
theorem ar_0 (k oa ob n:Int) (l:Nat×Nat) (xs:Value) (c1:∀w,Calls Tryz.prog 188 #[.int .i64 k] w fun e w'=>e=.returned (.int .i64 0)/\w=w') (w:World):Calls Tryz.prog 193 #[.agg #[.int .i64 k,.int .i64 oa,.int .i64 ob,.int .i64 n,.float .f64 l.1,.float .f64 l.2],xs] w fun e w'=>e=.returned (.tuple #[.slice none 0 0,.slice none 0 0])/\Below w.heap.size w w':=by
 have O:HasO (w.alloc (.cells #[.int .i64 k,.int .i64 oa,.int .i64 ob,.int .i64 n,.float .f64 l.1,.float .f64 l.2] 77)) w.heap.size k oa ob n l:=hasO_new w k oa ob n l
 have HB:Below w.heap.size w (w.alloc (.cells #[.int .i64 k,.int .i64 oa,.int .i64 ob,.int .i64 n,.float .f64 l.1,.float .f64 l.2] 77)):=by go_grown
 go_enter Tryz.func193,Tryz.ntmps193
 go_upto_region 1 with fail
 generalize (w.alloc (.cells #[.int .i64 k,.int .i64 oa,.int .i64 ob,.int .i64 n,.float .f64 l.1,.float .f64 l.2] 77))=V1 at *
 obtain⟨o0,o1,o2,o3,o4,o5,ol⟩:=id O
 go_wp2_with (go_at_call 188;refine (c1 _).mono ?_;rintro _ w1 ⟨rfl,rfl⟩)
 all_goals
  refine bodyPost_ret (v:=.tuple #[.slice none 0 0,.slice none 0 0]) (by simp [results,Tryz.results193,go_sem, *]) rfl ⟨rfl, ?_⟩
  repeat' (first | (with_reducible exact HB) | (with_reducible refine Below.drew ?_) | go_size)
set_option maxHeartbeats 1000000 in
theorem ar_1 (k ob n:Int) (i m C xb xo:Nat) (l:Nat×Nat) (s:Value) (A:Option Addr) (na Ca:Nat) (hs:s=.slice A na Ca) (hi:i<m) (c1:∀w,Calls Tryz.prog 188 #[.int .i64 k] w fun e w'=>e=.returned (.int .i64 1)/\w=w') (w:World) (hb:xb<w.heap.size) (x0:w.cell? ⟨xb,xo+i,none⟩=some s):Calls Tryz.prog 193 #[.agg #[.int .i64 k,.int .i64 (i:Int),.int .i64 ob,.int .i64 n,.float .f64 l.1,.float .f64 l.2],.slice (some ⟨xb,xo,none⟩) m C] w fun e w'=>e=.returned (.tuple #[s,.slice none 0 0])/\Below w.heap.size w w':=by
 subst hs
 have O:HasO (w.alloc (.cells #[.int .i64 k,.int .i64 (i:Int),.int .i64 ob,.int .i64 n,.float .f64 l.1,.float .f64 l.2] 77)) w.heap.size k (i:Int) ob n l:=hasO_new w k (i:Int) ob n l
 have HB:Below w.heap.size w (w.alloc (.cells #[.int .i64 k,.int .i64 (i:Int),.int .i64 ob,.int .i64 n,.float .f64 l.1,.float .f64 l.2] 77)):=by go_grown
 have hi2:(i:Int)<(m:Int):=by omega
 go_enter Tryz.func193,Tryz.ntmps193
 go_upto_region 1 with fail
 replace x0:=keepsC HB x0 hb
 generalize (w.alloc (.cells #[.int .i64 k,.int .i64 (i:Int),.int .i64 ob,.int .i64 n,.float .f64 l.1,.float .f64 l.2] 77))=V1 at *
 obtain⟨o0,o1,o2,o3,o4,o5,ol⟩:=id O
 go_wp2_with (go_at_call 188;refine (c1 _).mono ?_;rintro _ w1 ⟨rfl,rfl⟩)
 all_goals
  refine bodyPost_ret (v:=.tuple #[.slice A na Ca,.slice none 0 0]) (by simp [results,Tryz.results193,go_sem, *]) rfl ⟨rfl, ?_⟩
  repeat' (first | (with_reducible exact HB) | (with_reducible refine Below.drew ?_) | go_size)
set_option maxHeartbeats 1000000 in
theorem ar_2 (k n:Int) (i j m C xb xo:Nat) (l:Nat×Nat) (s u:Value) (A B:Option Addr) (na Ca nb Cb:Nat) (hs:s=.slice A na Ca) (hu:u=.slice B nb Cb) (hi:i<m) (hj:j<m) (c1:∀w,Calls Tryz.prog 188 #[.int .i64 k] w fun e w'=>e=.returned (.int .i64 2)/\w=w') (w:World) (hb:xb<w.heap.size) (x0:w.cell? ⟨xb,xo+i,none⟩=some s) (y0:w.cell? ⟨xb,xo+j,none⟩=some u):Calls Tryz.prog 193 #[.agg #[.int .i64 k,.int .i64 (i:Int),.int .i64 (j:Int),.int .i64 n,.float .f64 l.1,.float .f64 l.2],.slice (some ⟨xb,xo,none⟩) m C] w fun e w'=>e=.returned (.tuple #[s,u])/\Below w.heap.size w w':=by
 subst hs
 subst hu
 have O:HasO (w.alloc (.cells #[.int .i64 k,.int .i64 (i:Int),.int .i64 (j:Int),.int .i64 n,.float .f64 l.1,.float .f64 l.2] 77)) w.heap.size k (i:Int) (j:Int) n l:=hasO_new w k (i:Int) (j:Int) n l
 have HB:Below w.heap.size w (w.alloc (.cells #[.int .i64 k,.int .i64 (i:Int),.int .i64 (j:Int),.int .i64 n,.float .f64 l.1,.float .f64 l.2] 77)):=by go_grown
 have hi2:(i:Int)<(m:Int):=by omega
 have hj2:(j:Int)<(m:Int):=by omega
 go_enter Tryz.func193,Tryz.ntmps193
 go_upto_region 1 with fail
 replace x0:=keepsC HB x0 hb
 replace y0:=keepsC HB y0 hb
 generalize (w.alloc (.cells #[.int .i64 k,.int .i64 (i:Int),.int .i64 (j:Int),.int .i64 n,.float .f64 l.1,.float .f64 l.2] 77))=V1 at *
 obtain⟨o0,o1,o2,o3,o4,o5,ol⟩:=id O
 go_upto_region 5 with (go_at_call 188;refine (c1 _).mono ?_;rintro _ w1 ⟨rfl,rfl⟩)
 go_region_with fail
 all_goals go_wp2_with fail
 all_goals
  refine bodyPost_ret (v:=.tuple #[.slice A na Ca,.slice B nb Cb]) (by simp [results,Tryz.results193,go_sem, *]) rfl ⟨rfl, ?_⟩
  repeat' (first | (with_reducible exact HB) | (with_reducible refine Below.drew ?_) | go_size)
set_option maxHeartbeats 1000000 in
theorem cl_own (j:Nat) (k oa ob n:Int) (l p q:Nat×Nat) (c1:∀w,Calls Tryz.prog 55 #[.float .f64 0] w fun e w'=>e=.returned (.agg #[.float .f64 p.1,.float .f64 p.2])/\Below w.heap.size w w') (c2:∀w,Calls Tryz.prog 55 #[.float .f64 4607182418800017408] w fun e w'=>e=.returned (.agg #[.float .f64 q.1,.float .f64 q.2])/\Below w.heap.size w w') (bo:Nat) (w:World) (O:HasO w bo k oa ob n l) :
  Calls Tryz.prog 195 #[.int .i64 (j:Int),.pointer (some ⟨bo,0,none⟩)] w fun e w'=>e=.returned (.agg #[.float .f64 (if (j:Int)=n then q else p).1,.float .f64 (if (j:Int)=n then q else p).2])/\Below w.heap.size w w':=by
 have R:Has2 (w.alloc (.cells #[.float .f64 0,.float .f64 0] 24)) w.heap.size (.float .f64 0) (.float .f64 0):=has2_new _ _ _ _
 have HB:Below w.heap.size w (w.alloc (.cells #[.float .f64 0,.float .f64 0] 24)):=by go_grown
 replace O:=O.keep HB
 have cf:=fun w=>ownSlope_w false p q c1 c2 w
 have ct:=fun w=>ownSlope_w true p q c1 c2 w
 clear c1 c2
 by_cases hj:(j:Int)=n
 ·rw [if_pos hj]
  subst hj
  go_enter Tryz.func195,Tryz.ntmps195
  go_upto_region 1 with fail
  generalize (w.alloc (.cells #[.float .f64 0,.float .f64 0] 24))=V1 at *
  obtain⟨o0,o1,o2,o3,o4,o5,ol⟩:=id O
  obtain⟨k0,k1,k2,k3,k4⟩:=id R
  go_wp2_with (go_at_call 196;refine (ct _).mono ?_;rintro _ VV ⟨rfl,hb1⟩;replace R:=R.keep hb1;replace HB:=later HB hb1;clear hb1;clear k0 k1 k2 k3 k4;obtain⟨k0,k1,k2,k3,k4⟩:=id R)
  refine bodyPost_ret (v:=.agg #[.float .f64 q.1,.float .f64 q.2]) (by simp [results,Tryz.results195,go_sem, *]) rfl ⟨rfl, ?_⟩;repeat' (first | (with_reducible exact HB) | (with_reducible refine Below.setCell ?_ ?_ _) | go_size)
 ·rw [if_neg hj]
  have hj2:((j:Int)==n)=false:=by simpa using hj
  have hj3:decide ((j:Int)=n)=false:=by simpa using hj
  go_enter Tryz.func195,Tryz.ntmps195
  go_upto_region 1 with fail
  generalize (w.alloc (.cells #[.float .f64 0,.float .f64 0] 24))=V1 at *
  obtain⟨o0,o1,o2,o3,o4,o5,ol⟩:=id O
  obtain⟨k0,k1,k2,k3,k4⟩:=id R
  go_wp2_with (go_at_call 196;(try simp only [hj2,hj3]);refine (cf _).mono ?_;rintro _ VV ⟨rfl,hb1⟩;replace R:=R.keep hb1;replace HB:=later HB hb1;clear hb1;clear k0 k1 k2 k3 k4;obtain⟨k0,k1,k2,k3,k4⟩:=id R)
  refine bodyPost_ret (v:=.agg #[.float .f64 p.1,.float .f64 p.2]) (by simp [results,Tryz.results195,go_sem, *]) rfl ⟨rfl, ?_⟩;repeat' (first | (with_reducible exact HB) | (with_reducible refine Below.setCell ?_ ?_ _) | go_size)
theorem HasO.ex {x:Nat} {w W:World} {b:Nat} {k oa ob n:Int} {l:Nat×Nat} (h:HasO w b k oa ob n l) (q:Bex x w W) (hne:b≠x):HasO W b k oa ob n l :=
 ⟨q.cell h.1 h.7 hne,q.cell h.2 h.7 hne,q.cell h.3 h.7 hne,q.cell h.4 h.7 hne,q.cell h.5 h.7 hne,q.cell h.6 h.7 hne,Nat.lt_of_lt_of_le h.7 q.size⟩
theorem lt_alloc (w:World) (o:Obj):w.heap.size<(w.alloc o).heap.size:=by rw [World.size_alloc];exact Nat.lt_succ_self _
theorem new_cell1 (w:World) (v:Value) (T:TypeId):(w.alloc (.cells #[v] T)).cell? ⟨w.heap.size,0,none⟩=some v:=by go_simp
theorem new_frozen1 (w:World) (v:Value) (T:TypeId):(w.alloc (.cells #[v] T)).frozen? ⟨w.heap.size,0,none⟩=false:=by go_simp
set_option maxHeartbeats 1000000 in
theorem cl_turn (j:Nat) (x y:Value) (q p:Nat×Nat) (c1:∀w,Calls Tryz.prog 57 #[.agg #[.float .f64 q.1,.float .f64 q.2]] w fun e w'=>e=.returned (.agg #[.float .f64 p.1,.float .f64 p.2])/\Below w.heap.size w w') (b:Nat) (w:World) (B:HasI w b (.func (.func 243) #[] #[x,y])) (c:∀W,Below w.heap.size w W->Calls Tryz.prog 243 #[.int .i64 (j:Int),x,y] W fun e w'=>e=.returned (.agg #[.float .f64 q.1,.float .f64 q.2])/\Below W.heap.size W w') :
  Calls Tryz.prog 205 #[.int .i64 (j:Int),.pointer (some ⟨b,0,none⟩)] w fun e w'=>e=.returned (.agg #[.float .f64 p.1,.float .f64 p.2])/\Below w.heap.size w w':=by
 have R:Has2 (w.alloc (.cells #[.float .f64 0,.float .f64 0] 24)) w.heap.size (.float .f64 0) (.float .f64 0):=has2_new _ _ _ _
 have HB:Below w.heap.size w (w.alloc (.cells #[.float .f64 0,.float .f64 0] 24)):=by go_grown
 replace B:=B.keep HB
 go_enter Tryz.func205,Tryz.ntmps205
 go_upto_region 1 with fail
 generalize (w.alloc (.cells #[.float .f64 0,.float .f64 0] 24))=V1 at *
 obtain⟨p0,p1⟩:=id B
 obtain⟨k0,k1,k2,k3,k4⟩:=id R
 go_wp2_with (first
  | (go_at_call 57;refine (c1 _).mono ?_;rintro _ VV ⟨rfl,hb1⟩;replace R:=R.keep hb1;replace HB:=later HB hb1;clear hb1;clear k0 k1 k2 k3 k4;obtain⟨k0,k1,k2,k3,k4⟩:=id R)
  | (go_at_call 243;refine (c _ HB).mono ?_;rintro _ V2 ⟨rfl,hb1⟩;replace R:=R.keep hb1;replace HB:=later HB hb1;clear hb1;clear k0 k1 k2 k3 k4;obtain⟨k0,k1,k2,k3,k4⟩:=id R))
 refine bodyPost_ret (v:=.agg #[.float .f64 p.1,.float .f64 p.2]) (by simp [results,Tryz.results205,go_sem, *]) rfl ⟨rfl, ?_⟩;repeat' (first | (with_reducible exact HB) | (with_reducible refine Below.setCell ?_ ?_ _) | go_size)
end Go.Proofs.YtopfabemfbdccaaGreat
