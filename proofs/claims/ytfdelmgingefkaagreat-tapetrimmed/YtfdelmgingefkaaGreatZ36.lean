/- Slopes: each closure that an operation's rule is. Slopes: what answers the closures. near, powerOfTwo, scaled; the series of sine and cosine; constants in more bits. -/
import Derived.Test.YtfdelmgingefkaaGreatZ35
import Derived.Test.YtfdelmgingefkaaGreatZ31
import Derived.Test.YtfdelmgingefkaaGreatZ29
namespace Go.Proofs.YtfdelmgingefkaaGreat
open Go.ChangeShapes Go.WideShapes Go.ChangeAt Go.RowKit
set_option maxHeartbeats 1000000 in
theorem cl_mul (f p:Nat×Nat) (Da:Option Addr) (na Ca:Nat) (Xa:Nat→Nat×Nat) (j:Nat) (ha:j<na) (c1:∀w,Calls Tryz.prog 56 #[.agg #[.float .f64 f.1,.float .f64 f.2],.agg #[.float .f64 (Xa j).1,.float .f64 (Xa j).2]] w fun e w'=>e=.returned (.agg #[.float .f64 p.1,.float .f64 p.2])∧Below w.heap.size w w') (bf ba:Nat) (w:World) (Bf:Has2 w bf (.float .f64 f.1) (.float .f64 f.2)) (Ba:HasI w ba (.slice Da na Ca)) (Ua:Ivs w Da na Xa) :
   Calls Tryz.prog 216 #[.int .i64 (j:Int),.pointer (some ⟨bf,0,none⟩),.pointer (some ⟨ba,0,none⟩)] w fun e w'=>e=.returned (.agg #[.float .f64 p.1,.float .f64 p.2])∧Below w.heap.size w w':=by
 have R:Has2 (w.alloc (.cells #[.float .f64 0,.float .f64 0] 24)) w.heap.size (.float .f64 0) (.float .f64 0):=has2_new _ _ _ _
 have HB:Below w.heap.size w (w.alloc (.cells #[.float .f64 0,.float .f64 0] 24)):=by go_grown
 replace Bf:=Bf.keep HB
 replace Ba:=Ba.keep HB
 obtain⟨xa,oa,rfl,la,ea0,ea1, -⟩:=(Ua.keep HB) j ha
 have lta:(j:Int)<(na:Int):=by omega
 go_enter Tryz.func216,Tryz.ntmps216
 go_upto_region 1 with fail
 generalize (w.alloc (.cells #[.float .f64 0,.float .f64 0] 24))=V1 at *
 have kf0:=fun n:Behind V1=>n.cell Bf.1 Bf.2.2.2.2
 have kf1:=fun n:Behind V1=>n.cell Bf.2.1 Bf.2.2.2.2
 have ka:=fun n:Behind V1=>n.cell Ba.1 Ba.2
 have ka0:=fun n:Behind V1=>n.cell ea0 la
 have ka1:=fun n:Behind V1=>n.cell ea1 la
 refine tail_behind 6 (by kernel_rfl) (by kernel_rfl) ?_
 simp only [List.take_succ_cons,List.take_zero,List.drop_succ_cons,List.drop_zero]
 repeat (go_big_quiet_step (first | (go_at_call 56;with_reducible refine Behind.call (c1 _))))
 refine wpQuiet_nil ?_
 rintro _ ⟨m',rfl⟩
 obtain⟨W,hb1⟩:=m'
 dsimp only
 skip
 replace R:=R.keep hb1;replace HB:=later HB hb1;clear hb1
 obtain⟨k0,k1,k2,k3,k4⟩:=id R
 go_wp2_with fail
 refine bodyPost_ret (v:=.agg #[.float .f64 p.1,.float .f64 p.2]) (by simp [results,Tryz.results216,go_sem, *]) rfl ⟨rfl, ?_⟩;repeat' (first | (with_reducible exact HB) | (with_reducible refine Below.setCell ?_ ?_ _) | go_size)
set_option maxHeartbeats 1000000 in
theorem cl_div (f p:Nat×Nat) (Da:Option Addr) (na Ca:Nat) (Xa:Nat→Nat×Nat) (j:Nat) (ha:j<na) (c1:∀w,Calls Tryz.prog 52 #[.agg #[.float .f64 (Xa j).1,.float .f64 (Xa j).2],.agg #[.float .f64 f.1,.float .f64 f.2]] w fun e w'=>e=.returned (.agg #[.float .f64 p.1,.float .f64 p.2])∧Below w.heap.size w w') (ba bf:Nat) (w:World) (Ba:HasI w ba (.slice Da na Ca)) (Ua:Ivs w Da na Xa) (Bf:Has2 w bf (.float .f64 f.1) (.float .f64 f.2)) :
   Calls Tryz.prog 215 #[.int .i64 (j:Int),.pointer (some ⟨ba,0,none⟩),.pointer (some ⟨bf,0,none⟩)] w fun e w'=>e=.returned (.agg #[.float .f64 p.1,.float .f64 p.2])∧Below w.heap.size w w':=by
 have R:Has2 (w.alloc (.cells #[.float .f64 0,.float .f64 0] 24)) w.heap.size (.float .f64 0) (.float .f64 0):=has2_new _ _ _ _
 have HB:Below w.heap.size w (w.alloc (.cells #[.float .f64 0,.float .f64 0] 24)):=by go_grown
 replace Ba:=Ba.keep HB
 obtain⟨xa,oa,rfl,la,ea0,ea1, -⟩:=(Ua.keep HB) j ha
 have lta:(j:Int)<(na:Int):=by omega
 replace Bf:=Bf.keep HB
 go_enter Tryz.func215,Tryz.ntmps215
 go_upto_region 1 with fail
 generalize (w.alloc (.cells #[.float .f64 0,.float .f64 0] 24))=V1 at *
 have ka:=fun n:Behind V1=>n.cell Ba.1 Ba.2
 have ka0:=fun n:Behind V1=>n.cell ea0 la
 have ka1:=fun n:Behind V1=>n.cell ea1 la
 have kf0:=fun n:Behind V1=>n.cell Bf.1 Bf.2.2.2.2
 have kf1:=fun n:Behind V1=>n.cell Bf.2.1 Bf.2.2.2.2
 refine tail_behind 6 (by kernel_rfl) (by kernel_rfl) ?_
 simp only [List.take_succ_cons,List.take_zero,List.drop_succ_cons,List.drop_zero]
 repeat (go_big_quiet_step (first | (go_at_call 52;with_reducible refine Behind.call (c1 _))))
 refine wpQuiet_nil ?_
 rintro _ ⟨m',rfl⟩
 obtain⟨W,hb1⟩:=m'
 dsimp only
 skip
 replace R:=R.keep hb1;replace HB:=later HB hb1;clear hb1
 obtain⟨k0,k1,k2,k3,k4⟩:=id R
 go_wp2_with fail
 refine bodyPost_ret (v:=.agg #[.float .f64 p.1,.float .f64 p.2]) (by simp [results,Tryz.results215,go_sem, *]) rfl ⟨rfl, ?_⟩;repeat' (first | (with_reducible exact HB) | (with_reducible refine Below.setCell ?_ ?_ _) | go_size)
set_option maxHeartbeats 1000000 in
theorem cl_add (p:Nat×Nat) (Da:Option Addr) (na Ca:Nat) (Xa:Nat→Nat×Nat) (Dd:Option Addr) (nd Cd:Nat) (Xd:Nat→Nat×Nat) (j:Nat) (ha:j<na) (hd:j<nd) (c1:∀w,Calls Tryz.prog 63 #[.agg #[.float .f64 (Xa j).1,.float .f64 (Xa j).2],.agg #[.float .f64 (Xd j).1,.float .f64 (Xd j).2]] w fun e w'=>e=.returned (.agg #[.float .f64 p.1,.float .f64 p.2])∧Below w.heap.size w w') (ba bd:Nat) (w:World) (Ba:HasI w ba (.slice Da na Ca)) (Ua:Ivs w Da na Xa) (Bd:HasI w bd (.slice Dd nd Cd)) (Ud:Ivs w Dd nd Xd) :
   Calls Tryz.prog 184 #[.int .i64 (j:Int),.pointer (some ⟨ba,0,none⟩),.pointer (some ⟨bd,0,none⟩)] w fun e w'=>e=.returned (.agg #[.float .f64 p.1,.float .f64 p.2])∧Below w.heap.size w w':=by
 have R:Has2 (w.alloc (.cells #[.float .f64 0,.float .f64 0] 24)) w.heap.size (.float .f64 0) (.float .f64 0):=has2_new _ _ _ _
 have HB:Below w.heap.size w (w.alloc (.cells #[.float .f64 0,.float .f64 0] 24)):=by go_grown
 replace Ba:=Ba.keep HB
 obtain⟨xa,oa,rfl,la,ea0,ea1, -⟩:=(Ua.keep HB) j ha
 have lta:(j:Int)<(na:Int):=by omega
 replace Bd:=Bd.keep HB
 obtain⟨xd,od,rfl,ld,ed0,ed1, -⟩:=(Ud.keep HB) j hd
 have ltd:(j:Int)<(nd:Int):=by omega
 go_enter Tryz.func184,Tryz.ntmps184
 go_upto_region 1 with fail
 generalize (w.alloc (.cells #[.float .f64 0,.float .f64 0] 24))=V1 at *
 have ka:=fun n:Behind V1=>n.cell Ba.1 Ba.2
 have ka0:=fun n:Behind V1=>n.cell ea0 la
 have ka1:=fun n:Behind V1=>n.cell ea1 la
 have kd:=fun n:Behind V1=>n.cell Bd.1 Bd.2
 have kd0:=fun n:Behind V1=>n.cell ed0 ld
 have kd1:=fun n:Behind V1=>n.cell ed1 ld
 refine tail_behind 9 (by kernel_rfl) (by kernel_rfl) ?_
 simp only [List.take_succ_cons,List.take_zero,List.drop_succ_cons,List.drop_zero]
 repeat (go_big_quiet_step (first | (go_at_call 63;with_reducible refine Behind.call (c1 _))))
 refine wpQuiet_nil ?_
 rintro _ ⟨m',rfl⟩
 obtain⟨W,hb1⟩:=m'
 dsimp only
 skip
 replace R:=R.keep hb1;replace HB:=later HB hb1;clear hb1
 obtain⟨k0,k1,k2,k3,k4⟩:=id R
 go_wp2_with fail
 refine bodyPost_ret (v:=.agg #[.float .f64 p.1,.float .f64 p.2]) (by simp [results,Tryz.results184,go_sem, *]) rfl ⟨rfl, ?_⟩;repeat' (first | (with_reducible exact HB) | (with_reducible refine Below.setCell ?_ ?_ _) | go_size)
set_option maxHeartbeats 1000000 in
theorem cl_sub (p:Nat×Nat) (Da:Option Addr) (na Ca:Nat) (Xa:Nat→Nat×Nat) (Dd:Option Addr) (nd Cd:Nat) (Xd:Nat→Nat×Nat) (j:Nat) (ha:j<na) (hd:j<nd) (c1:∀w,Calls Tryz.prog 58 #[.agg #[.float .f64 (Xa j).1,.float .f64 (Xa j).2],.agg #[.float .f64 (Xd j).1,.float .f64 (Xd j).2]] w fun e w'=>e=.returned (.agg #[.float .f64 p.1,.float .f64 p.2])∧Below w.heap.size w w') (ba bd:Nat) (w:World) (Ba:HasI w ba (.slice Da na Ca)) (Ua:Ivs w Da na Xa) (Bd:HasI w bd (.slice Dd nd Cd)) (Ud:Ivs w Dd nd Xd) :
   Calls Tryz.prog 185 #[.int .i64 (j:Int),.pointer (some ⟨ba,0,none⟩),.pointer (some ⟨bd,0,none⟩)] w fun e w'=>e=.returned (.agg #[.float .f64 p.1,.float .f64 p.2])∧Below w.heap.size w w':=by
 have R:Has2 (w.alloc (.cells #[.float .f64 0,.float .f64 0] 24)) w.heap.size (.float .f64 0) (.float .f64 0):=has2_new _ _ _ _
 have HB:Below w.heap.size w (w.alloc (.cells #[.float .f64 0,.float .f64 0] 24)):=by go_grown
 replace Ba:=Ba.keep HB
 obtain⟨xa,oa,rfl,la,ea0,ea1, -⟩:=(Ua.keep HB) j ha
 have lta:(j:Int)<(na:Int):=by omega
 replace Bd:=Bd.keep HB
 obtain⟨xd,od,rfl,ld,ed0,ed1, -⟩:=(Ud.keep HB) j hd
 have ltd:(j:Int)<(nd:Int):=by omega
 go_enter Tryz.func185,Tryz.ntmps185
 go_upto_region 1 with fail
 generalize (w.alloc (.cells #[.float .f64 0,.float .f64 0] 24))=V1 at *
 have ka:=fun n:Behind V1=>n.cell Ba.1 Ba.2
 have ka0:=fun n:Behind V1=>n.cell ea0 la
 have ka1:=fun n:Behind V1=>n.cell ea1 la
 have kd:=fun n:Behind V1=>n.cell Bd.1 Bd.2
 have kd0:=fun n:Behind V1=>n.cell ed0 ld
 have kd1:=fun n:Behind V1=>n.cell ed1 ld
 refine tail_behind 9 (by kernel_rfl) (by kernel_rfl) ?_
 simp only [List.take_succ_cons,List.take_zero,List.drop_succ_cons,List.drop_zero]
 repeat (go_big_quiet_step (first | (go_at_call 58;with_reducible refine Behind.call (c1 _))))
 refine wpQuiet_nil ?_
 rintro _ ⟨m',rfl⟩
 obtain⟨W,hb1⟩:=m'
 dsimp only
 skip
 replace R:=R.keep hb1;replace HB:=later HB hb1;clear hb1
 obtain⟨k0,k1,k2,k3,k4⟩:=id R
 go_wp2_with fail
 refine bodyPost_ret (v:=.agg #[.float .f64 p.1,.float .f64 p.2]) (by simp [results,Tryz.results185,go_sem, *]) rfl ⟨rfl, ?_⟩;repeat' (first | (with_reducible exact HB) | (with_reducible refine Below.setCell ?_ ?_ _) | go_size)
set_option maxHeartbeats 1000000 in
theorem cl_prod (g f p q s:Nat×Nat) (Da:Option Addr) (na Ca:Nat) (Xa:Nat→Nat×Nat) (Dd:Option Addr) (nd Cd:Nat) (Xd:Nat→Nat×Nat) (j:Nat) (ha:j<na) (hd:j<nd) (c1:∀w,Calls Tryz.prog 56 #[.agg #[.float .f64 (Xa j).1,.float .f64 (Xa j).2],.agg #[.float .f64 g.1,.float .f64 g.2]] w fun e w'=>e=.returned (.agg #[.float .f64 p.1,.float .f64 p.2])∧Below w.heap.size w w') (c2:∀w,Calls Tryz.prog 56 #[.agg #[.float .f64 f.1,.float .f64 f.2],.agg #[.float .f64 (Xd j).1,.float .f64 (Xd j).2]] w fun e w'=>e=.returned (.agg #[.float .f64 q.1,.float .f64 q.2])∧Below w.heap.size w w') (c3:∀w,Calls Tryz.prog 63 #[.agg #[.float .f64 p.1,.float .f64 p.2],.agg #[.float .f64 q.1,.float .f64 q.2]] w fun e w'=>e=.returned (.agg #[.float .f64 s.1,.float .f64 s.2])∧Below w.heap.size w w') (ba bg bf bd:Nat) (w:World) (Ba:HasI w ba (.slice Da na Ca)) (Ua:Ivs w Da na Xa) (Bg:Has2 w bg (.float .f64 g.1) (.float .f64 g.2)) (Bf:Has2 w bf (.float .f64 f.1) (.float .f64 f.2)) (Bd:HasI w bd (.slice Dd nd Cd)) (Ud:Ivs w Dd nd Xd) :
   Calls Tryz.prog 186 #[.int .i64 (j:Int),.pointer (some ⟨ba,0,none⟩),.pointer (some ⟨bg,0,none⟩),.pointer (some ⟨bf,0,none⟩),.pointer (some ⟨bd,0,none⟩)] w fun e w'=>e=.returned (.agg #[.float .f64 s.1,.float .f64 s.2])∧Below w.heap.size w w':=by
 have R:Has2 (w.alloc (.cells #[.float .f64 0,.float .f64 0] 24)) w.heap.size (.float .f64 0) (.float .f64 0):=has2_new _ _ _ _
 have HB:Below w.heap.size w (w.alloc (.cells #[.float .f64 0,.float .f64 0] 24)):=by go_grown
 replace Ba:=Ba.keep HB
 obtain⟨xa,oa,rfl,la,ea0,ea1, -⟩:=(Ua.keep HB) j ha
 have lta:(j:Int)<(na:Int):=by omega
 replace Bg:=Bg.keep HB
 replace Bf:=Bf.keep HB
 replace Bd:=Bd.keep HB
 obtain⟨xd,od,rfl,ld,ed0,ed1, -⟩:=(Ud.keep HB) j hd
 have ltd:(j:Int)<(nd:Int):=by omega
 go_enter Tryz.func186,Tryz.ntmps186
 go_upto_region 1 with fail
 generalize (w.alloc (.cells #[.float .f64 0,.float .f64 0] 24))=V1 at *
 have ka:=fun n:Behind V1=>n.cell Ba.1 Ba.2
 have ka0:=fun n:Behind V1=>n.cell ea0 la
 have ka1:=fun n:Behind V1=>n.cell ea1 la
 have kg0:=fun n:Behind V1=>n.cell Bg.1 Bg.2.2.2.2
 have kg1:=fun n:Behind V1=>n.cell Bg.2.1 Bg.2.2.2.2
 have kf0:=fun n:Behind V1=>n.cell Bf.1 Bf.2.2.2.2
 have kf1:=fun n:Behind V1=>n.cell Bf.2.1 Bf.2.2.2.2
 have kd:=fun n:Behind V1=>n.cell Bd.1 Bd.2
 have kd0:=fun n:Behind V1=>n.cell ed0 ld
 have kd1:=fun n:Behind V1=>n.cell ed1 ld
 refine tail_behind 13 (by kernel_rfl) (by kernel_rfl) ?_
 simp only [List.take_succ_cons,List.take_zero,List.drop_succ_cons,List.drop_zero]
 repeat (go_big_quiet_step (first | (go_at_call 56;with_reducible refine Behind.call (c1 _)) | (go_at_call 56;with_reducible refine Behind.call (c2 _)) | (go_at_call 63;with_reducible refine Behind.call (c3 _))))
 refine wpQuiet_nil ?_
 rintro _ ⟨m',rfl⟩
 obtain⟨W,hb1⟩:=m'
 dsimp only
 skip
 replace R:=R.keep hb1;replace HB:=later HB hb1;clear hb1
 obtain⟨k0,k1,k2,k3,k4⟩:=id R
 go_wp2_with fail
 refine bodyPost_ret (v:=.agg #[.float .f64 s.1,.float .f64 s.2]) (by simp [results,Tryz.results186,go_sem, *]) rfl ⟨rfl, ?_⟩;repeat' (first | (with_reducible exact HB) | (with_reducible refine Below.setCell ?_ ?_ _) | go_size)
set_option maxHeartbeats 1000000 in
theorem cl_quot (f g p q s:Nat×Nat) (Da:Option Addr) (na Ca:Nat) (Xa:Nat→Nat×Nat) (Dd:Option Addr) (nd Cd:Nat) (Xd:Nat→Nat×Nat) (j:Nat) (ha:j<na) (hd:j<nd) (c1:∀w,Calls Tryz.prog 56 #[.agg #[.float .f64 f.1,.float .f64 f.2],.agg #[.float .f64 (Xd j).1,.float .f64 (Xd j).2]] w fun e w'=>e=.returned (.agg #[.float .f64 p.1,.float .f64 p.2])∧Below w.heap.size w w') (c2:∀w,Calls Tryz.prog 58 #[.agg #[.float .f64 (Xa j).1,.float .f64 (Xa j).2],.agg #[.float .f64 p.1,.float .f64 p.2]] w fun e w'=>e=.returned (.agg #[.float .f64 q.1,.float .f64 q.2])∧Below w.heap.size w w') (c3:∀w,Calls Tryz.prog 52 #[.agg #[.float .f64 q.1,.float .f64 q.2],.agg #[.float .f64 g.1,.float .f64 g.2]] w fun e w'=>e=.returned (.agg #[.float .f64 s.1,.float .f64 s.2])∧Below w.heap.size w w') (ba bf bd bg:Nat) (w:World) (Ba:HasI w ba (.slice Da na Ca)) (Ua:Ivs w Da na Xa) (Bf:Has2 w bf (.float .f64 f.1) (.float .f64 f.2)) (Bd:HasI w bd (.slice Dd nd Cd)) (Ud:Ivs w Dd nd Xd) (Bg:Has2 w bg (.float .f64 g.1) (.float .f64 g.2)) :
   Calls Tryz.prog 187 #[.int .i64 (j:Int),.pointer (some ⟨ba,0,none⟩),.pointer (some ⟨bf,0,none⟩),.pointer (some ⟨bd,0,none⟩),.pointer (some ⟨bg,0,none⟩)] w fun e w'=>e=.returned (.agg #[.float .f64 s.1,.float .f64 s.2])∧Below w.heap.size w w':=by
 have R:Has2 (w.alloc (.cells #[.float .f64 0,.float .f64 0] 24)) w.heap.size (.float .f64 0) (.float .f64 0):=has2_new _ _ _ _
 have HB:Below w.heap.size w (w.alloc (.cells #[.float .f64 0,.float .f64 0] 24)):=by go_grown
 replace Ba:=Ba.keep HB
 obtain⟨xa,oa,rfl,la,ea0,ea1, -⟩:=(Ua.keep HB) j ha
 have lta:(j:Int)<(na:Int):=by omega
 replace Bf:=Bf.keep HB
 replace Bd:=Bd.keep HB
 obtain⟨xd,od,rfl,ld,ed0,ed1, -⟩:=(Ud.keep HB) j hd
 have ltd:(j:Int)<(nd:Int):=by omega
 replace Bg:=Bg.keep HB
 go_enter Tryz.func187,Tryz.ntmps187
 go_upto_region 1 with fail
 generalize (w.alloc (.cells #[.float .f64 0,.float .f64 0] 24))=V1 at *
 have ka:=fun n:Behind V1=>n.cell Ba.1 Ba.2
 have ka0:=fun n:Behind V1=>n.cell ea0 la
 have ka1:=fun n:Behind V1=>n.cell ea1 la
 have kf0:=fun n:Behind V1=>n.cell Bf.1 Bf.2.2.2.2
 have kf1:=fun n:Behind V1=>n.cell Bf.2.1 Bf.2.2.2.2
 have kd:=fun n:Behind V1=>n.cell Bd.1 Bd.2
 have kd0:=fun n:Behind V1=>n.cell ed0 ld
 have kd1:=fun n:Behind V1=>n.cell ed1 ld
 have kg0:=fun n:Behind V1=>n.cell Bg.1 Bg.2.2.2.2
 have kg1:=fun n:Behind V1=>n.cell Bg.2.1 Bg.2.2.2.2
 refine tail_behind 13 (by kernel_rfl) (by kernel_rfl) ?_
 simp only [List.take_succ_cons,List.take_zero,List.drop_succ_cons,List.drop_zero]
 repeat (go_big_quiet_step (first | (go_at_call 56;with_reducible refine Behind.call (c1 _)) | (go_at_call 58;with_reducible refine Behind.call (c2 _)) | (go_at_call 52;with_reducible refine Behind.call (c3 _))))
 refine wpQuiet_nil ?_
 rintro _ ⟨m',rfl⟩
 obtain⟨W,hb1⟩:=m'
 dsimp only
 skip
 replace R:=R.keep hb1;replace HB:=later HB hb1;clear hb1
 obtain⟨k0,k1,k2,k3,k4⟩:=id R
 go_wp2_with fail
 refine bodyPost_ret (v:=.agg #[.float .f64 s.1,.float .f64 s.2]) (by simp [results,Tryz.results187,go_sem, *]) rfl ⟨rfl, ?_⟩;repeat' (first | (with_reducible exact HB) | (with_reducible refine Below.setCell ?_ ?_ _) | go_size)
set_option maxHeartbeats 1000000 in
theorem cl_neg (p:Nat×Nat) (Da:Option Addr) (na Ca:Nat) (Xa:Nat→Nat×Nat) (j:Nat) (ha:j<na) (c1:∀w,Calls Tryz.prog 59 #[.agg #[.float .f64 (Xa j).1,.float .f64 (Xa j).2]] w fun e w'=>e=.returned (.agg #[.float .f64 p.1,.float .f64 p.2])∧Below w.heap.size w w') (ba:Nat) (w:World) (Ba:HasI w ba (.slice Da na Ca)) (Ua:Ivs w Da na Xa) :
   Calls Tryz.prog 188 #[.int .i64 (j:Int),.pointer (some ⟨ba,0,none⟩)] w fun e w'=>e=.returned (.agg #[.float .f64 p.1,.float .f64 p.2])∧Below w.heap.size w w':=by
 have R:Has2 (w.alloc (.cells #[.float .f64 0,.float .f64 0] 24)) w.heap.size (.float .f64 0) (.float .f64 0):=has2_new _ _ _ _
 have HB:Below w.heap.size w (w.alloc (.cells #[.float .f64 0,.float .f64 0] 24)):=by go_grown
 replace Ba:=Ba.keep HB
 obtain⟨xa,oa,rfl,la,ea0,ea1, -⟩:=(Ua.keep HB) j ha
 have lta:(j:Int)<(na:Int):=by omega
 go_enter Tryz.func188,Tryz.ntmps188
 go_upto_region 1 with fail
 generalize (w.alloc (.cells #[.float .f64 0,.float .f64 0] 24))=V1 at *
 obtain⟨p0,p1⟩:=id Ba
 obtain⟨k0,k1,k2,k3,k4⟩:=id R
 go_wp2_with (go_at_call 59;refine (c1 _).mono ?_;rintro _ VV ⟨rfl,hb1⟩;replace R:=R.keep hb1;replace HB:=later HB hb1;clear hb1;clear k0 k1 k2 k3 k4;obtain⟨k0,k1,k2,k3,k4⟩:=id R)
 refine bodyPost_ret (v:=.agg #[.float .f64 p.1,.float .f64 p.2]) (by simp [results,Tryz.results188,go_sem, *]) rfl ⟨rfl, ?_⟩;repeat' (first | (with_reducible exact HB) | (with_reducible refine Below.setCell ?_ ?_ _) | go_size)
theorem noSlope_w (j:Int) (p:Nat×Nat) (c1:∀w,Calls Tryz.prog 57 #[.float .f64 0] w fun e w'=>e=.returned (.agg #[.float .f64 p.1,.float .f64 p.2])∧Below w.heap.size w w') (w:World) :
   Calls Tryz.prog 181 #[.int .i64 j] w fun e w'=>e=.returned (.agg #[.float .f64 p.1,.float .f64 p.2])∧Below w.heap.size w w':=by
 have R:Has2 (w.alloc (.cells #[.float .f64 0,.float .f64 0] 24)) w.heap.size (.float .f64 0) (.float .f64 0):=has2_new _ _ _ _
 have HB:Below w.heap.size w (w.alloc (.cells #[.float .f64 0,.float .f64 0] 24)):=by go_grown
 go_enter Tryz.func181,Tryz.ntmps181
 go_upto_region 1 with fail
 generalize (w.alloc (.cells #[.float .f64 0,.float .f64 0] 24))=V1 at *
 obtain⟨k0,k1,k2,k3,k4⟩:=id R
 go_wp2_with (go_at_call 57;refine (c1 _).mono ?_;rintro _ VV ⟨rfl,hb1⟩;replace R:=R.keep hb1;replace HB:=later HB hb1;clear hb1;clear k0 k1 k2 k3 k4;obtain⟨k0,k1,k2,k3,k4⟩:=id R)
 refine bodyPost_ret (v:=.agg #[.float .f64 p.1,.float .f64 p.2]) (by simp [results,Tryz.results181,go_sem, *]) rfl ⟨rfl, ?_⟩;repeat' (first | (with_reducible exact HB) | (with_reducible refine Below.setCell ?_ ?_ _) | go_size)
theorem ownSlope_w (t:Bool) (p q:Nat×Nat) (c1:∀w,Calls Tryz.prog 57 #[.float .f64 0] w fun e w'=>e=.returned (.agg #[.float .f64 p.1,.float .f64 p.2])∧Below w.heap.size w w') (c2:∀w,Calls Tryz.prog 57 #[.float .f64 4607182418800017408] w fun e w'=>e=.returned (.agg #[.float .f64 q.1,.float .f64 q.2])∧Below w.heap.size w w') (w:World) :
   Calls Tryz.prog 183 #[.bool t] w fun e w'=>e=.returned (.agg #[.float .f64 (if t then q else p).1,.float .f64 (if t then q else p).2])∧Below w.heap.size w w':=by
 have R:Has2 (w.alloc (.cells #[.float .f64 0,.float .f64 0] 24)) w.heap.size (.float .f64 0) (.float .f64 0):=has2_new _ _ _ _
 have HB:Below w.heap.size w (w.alloc (.cells #[.float .f64 0,.float .f64 0] 24)):=by go_grown
 cases t
 · go_enter Tryz.func183,Tryz.ntmps183
   go_upto_region 1 with fail
   generalize (w.alloc (.cells #[.float .f64 0,.float .f64 0] 24))=V1 at *
   obtain⟨k0,k1,k2,k3,k4⟩:=id R
   go_wp2_with (go_at_call 57;refine (c1 _).mono ?_;rintro _ VV ⟨rfl,hb1⟩;replace R:=R.keep hb1;replace HB:=later HB hb1;clear hb1;clear k0 k1 k2 k3 k4;obtain⟨k0,k1,k2,k3,k4⟩:=id R)
   refine bodyPost_ret (v:=.agg #[.float .f64 p.1,.float .f64 p.2]) (by simp [results,Tryz.results183,go_sem, *]) rfl ⟨rfl, ?_⟩;repeat' (first | (with_reducible exact HB) | (with_reducible refine Below.setCell ?_ ?_ _) | go_size)
 · go_enter Tryz.func183,Tryz.ntmps183
   go_upto_region 1 with fail
   generalize (w.alloc (.cells #[.float .f64 0,.float .f64 0] 24))=V1 at *
   obtain⟨k0,k1,k2,k3,k4⟩:=id R
   go_wp2_with (go_at_call 57;refine (c2 _).mono ?_;rintro _ VV ⟨rfl,hb1⟩;replace R:=R.keep hb1;replace HB:=later HB hb1;clear hb1;clear k0 k1 k2 k3 k4;obtain⟨k0,k1,k2,k3,k4⟩:=id R)
   refine bodyPost_ret (v:=.agg #[.float .f64 q.1,.float .f64 q.2]) (by simp [results,Tryz.results183,go_sem, *]) rfl ⟨rfl, ?_⟩;repeat' (first | (with_reducible exact HB) | (with_reducible refine Below.setCell ?_ ?_ _) | go_size)
def Lit (g:FuncId) (caps:Array Value):Prop :=
 (g=181∧caps=#[])∨(∃x,g=182∧caps=#[x])∨(∃x y,g=184∧caps=#[x,y])∨(∃x y,g=185∧caps=#[x,y])∨(∃x y z u,g=186∧caps=#[x,y,z,u])∨(∃x y z u,g=187∧caps=#[x,y,z,u])∨(∃x,g=188∧caps=#[x])∨(∃x,g=192∧caps=#[x])∨(∃x y,g=215∧caps=#[x,y])∨(∃x y,g=216∧caps=#[x,y])
structure Bex (x:Nat) (w W:World):Prop where
 size:w.heap.size≤W.heap.size
 block:∀b,b<w.heap.size→b≠x→W.heap[b]?=w.heap[b]?
theorem Bex.of {w W:World} (x:Nat) (h:Below w.heap.size w W):Bex x w W:=⟨h.size,fun b hb _=>h.block b hb⟩
theorem Bex.trans {x:Nat} {w1 w2 w3:World} (h:Bex x w1 w2) (k:Bex x w2 w3):Bex x w1 w3:=⟨Nat.le_trans h.size k.size,fun b hb hne=>(k.block b (Nat.lt_of_lt_of_le hb h.size) hne).trans (h.block b hb hne)⟩
theorem Bex.set {x:Nat} {w W:World} (h:Bex x w W) (o:Nat) (v:Value):Bex x w (W.setCell ⟨x,o,none⟩ v):=⟨by rw [World.size_setCell];exact h.size,fun b hb hne=>by rw [Below.heap_setCell _ _ _ _ hne];exact h.block b hb hne⟩
theorem Bex.cell {x:Nat} {w W:World} (h:Bex x w W) {b o:Nat} {v:Value} (hc:w.cell? ⟨b,o,none⟩=some v) (hl:b<w.heap.size) (hne:b≠x):W.cell? ⟨b,o,none⟩=some v:=(World.cell?_of_block (w:=w) (h.block b hl hne)).trans hc
theorem Bex.frozen {x:Nat} {w W:World} (h:Bex x w W) {b o:Nat} (hc:w.frozen? ⟨b,o,none⟩=false) (hl:b<w.heap.size) (hne:b≠x):W.frozen? ⟨b,o,none⟩=false:=by
 unfold World.frozen? at *
 simp only [h.block b hl hne]
 exact hc
def Off (A:Option Addr) (n x:Nat):Prop:=0<n→∀b o,A=some ⟨b,o,none⟩→b≠x
theorem Has2.ex {x:Nat} {w W:World} {b:Nat} {u v:Value} (h:Has2 w b u v) (k:Bex x w W) (hne:b≠x):Has2 W b u v:=⟨k.cell h.1 h.2.2.2.2 hne,k.cell h.2.1 h.2.2.2.2 hne,k.frozen h.2.2.1 h.2.2.2.2 hne,k.frozen h.2.2.2.1 h.2.2.2.2 hne,Nat.lt_of_lt_of_le h.2.2.2.2 k.size⟩
theorem HasI.ex {x:Nat} {w W:World} {b:Nat} {u:Value} (h:HasI w b u) (k:Bex x w W) (hne:b≠x):HasI W b u:=⟨k.cell h.1 h.2 hne,Nat.lt_of_lt_of_le h.2 k.size⟩
theorem Ivs.ex {x:Nat} {w W:World} {A:Option Addr} {n:Nat} {X:Nat→Nat×Nat} (h:Ivs w A n X) (k:Bex x w W) (ho:Off A n x):Ivs W A n X:=fun i hi=>by
 obtain⟨b,o,e,l,c0,c1,r⟩:=h i hi
 have hne:=ho (by omega) b o e
 exact⟨b,o,e,Nat.lt_of_lt_of_le l k.size,k.cell c0 l hne,k.cell c1 l hne,r⟩
theorem Ivs.off {w:World} {A:Option Addr} {n x:Nat} {X:Nat→Nat×Nat} (h:Ivs w A n X) (hx:w.heap.size≤x):Off A n x:=fun hn b o e=>by
 obtain⟨b',o',e',l, -⟩:=h 0 hn
 rw [e] at e'
 cases e'
 omega
def Rule (x:Nat) (w:World) (fv:Value) (m:Nat) (G:Nat→Nat×Nat):Prop :=
 ∃g caps,fv=.func (.func g) #[] caps∧Lit g caps∧∀j,j<m→∀W,Bex x w W→Calls Tryz.prog g (#[.int .i64 (j:Int)]++caps) W fun e w'=>e=.returned (.agg #[.float .f64 (G j).1,.float .f64 (G j).2])∧Below W.heap.size W w'
def RuleM (ex:Nat) (w:World) (fv:Value) (m:Nat) (G:Nat→Nat×Nat):Prop :=
 ∃x y,fv=.func (.func 216) #[] #[x,y]∧∀j,j<m→∀W,Bex ex w W→Calls Tryz.prog 216 #[.int .i64 (j:Int),x,y] W fun e w'=>e=.returned (.agg #[.float .f64 (G j).1,.float .f64 (G j).2])∧Below W.heap.size W w'
theorem RuleM.rule {ex:Nat} {w:World} {fv:Value} {m:Nat} {G:Nat→Nat×Nat} (h:RuleM ex w fv m G):Rule ex w fv m G:=by
 obtain⟨x,y,e,c⟩:=h
 exact⟨_,_,e,by unfold Lit;simp,fun j hj W hW=>c j hj W hW⟩
theorem mult_w (ex:Nat) (f:Nat×Nat) (D:Option Addr) (n C:Nat) (X P:Nat→Nat×Nat) (hp:∀j,j<n→∀w,Calls Tryz.prog 56 #[.agg #[.float .f64 f.1,.float .f64 f.2],.agg #[.float .f64 (X j).1,.float .f64 (X j).2]] w fun e w'=>e=.returned (.agg #[.float .f64 (P j).1,.float .f64 (P j).2])∧Below w.heap.size w w') (w:World) (hx:ex<w.heap.size) (off:Off D n ex) (U:Ivs w D n X) :
   Calls Tryz.prog 191 #[.agg #[.float .f64 f.1,.float .f64 f.2],.slice D n C] w fun e w'=>(∃fv,e=.returned fv∧RuleM ex w' fv n P)∧Below w.heap.size w w':=by
 have HB:Below w.heap.size w ((w.alloc (Obj.cells #[.float .f64 f.1,.float .f64 f.2] 24)).alloc (Obj.cells #[.slice D n C] 46)):=by go_grown
 have A:Has2 ((w.alloc (Obj.cells #[.float .f64 f.1,.float .f64 f.2] 24)).alloc (Obj.cells #[.slice D n C] 46)) w.heap.size (.float .f64 f.1) (.float .f64 f.2):=⟨by go_simp,by go_simp,by go_simp,by go_simp,by go_size⟩
 have B:HasI ((w.alloc (Obj.cells #[.float .f64 f.1,.float .f64 f.2] 24)).alloc (Obj.cells #[.slice D n C] 46)) (w.heap.size+1) (.slice D n C):=⟨by go_simp,by go_size⟩
 go_enter Tryz.func191,Tryz.ntmps191
 go_wp2_with fail
 go_ret
 exact⟨⟨_,rfl,_,_,rfl,fun j hj W hW=>cl_mul f (P j) D n C X j hj (hp j hj) _ _ W (A.ex hW (by omega)) (B.ex hW (by omega)) ((U.keep HB).ex hW off)⟩,HB⟩
theorem mult_c (f:Nat×Nat) (D:Option Addr) (n C:Nat) (w:World) :
   Calls Tryz.prog 191 #[.agg #[.float .f64 f.1,.float .f64 f.2],.slice D n C] w fun e w'=>(∃bf ba,e=.returned (.func (.func 216) #[] #[.pointer (some ⟨bf,0,none⟩),.pointer (some ⟨ba,0,none⟩)])∧w.heap.size≤bf∧w.heap.size≤ba∧Has2 w' bf (.float .f64 f.1) (.float .f64 f.2)∧HasI w' ba (.slice D n C))∧Below w.heap.size w w':=by
 have HB:Below w.heap.size w ((w.alloc (Obj.cells #[.float .f64 f.1,.float .f64 f.2] 24)).alloc (Obj.cells #[.slice D n C] 46)):=by go_grown
 have A:Has2 ((w.alloc (Obj.cells #[.float .f64 f.1,.float .f64 f.2] 24)).alloc (Obj.cells #[.slice D n C] 46)) w.heap.size (.float .f64 f.1) (.float .f64 f.2):=⟨by go_simp,by go_simp,by go_simp,by go_simp,by go_size⟩
 have B:HasI ((w.alloc (Obj.cells #[.float .f64 f.1,.float .f64 f.2] 24)).alloc (Obj.cells #[.slice D n C] 46)) (w.heap.size+1) (.slice D n C):=⟨by go_simp,by go_size⟩
 go_enter Tryz.func191,Tryz.ntmps191
 go_wp2_with fail
 go_ret
 exact⟨⟨w.heap.size,w.heap.size+1,rfl,Nat.le_refl _,Nat.le_succ _,A,B⟩,HB⟩
theorem Has2.far1 {w:World} {b c o:Nat} {x y:Value} (h:Has2 w b x y) (hne:c≠b) (v:Value):Has2 (w.setCell ⟨c,o,none⟩ v) b x y:=by
 have k:Bex c w (w.setCell ⟨c,o,none⟩ v):=Bex.set ⟨Nat.le_refl _,fun _ _ _=>rfl⟩ o v
 exact h.ex k (fun e=>hne e.symm)
theorem HasI.far1 {w:World} {b c o:Nat} {x:Value} (h:HasI w b x) (hne:c≠b) (v:Value):HasI (w.setCell ⟨c,o,none⟩ v) b x:=by
 have k:Bex c w (w.setCell ⟨c,o,none⟩ v):=Bex.set ⟨Nat.le_refl _,fun _ _ _=>rfl⟩ o v
 exact h.ex k (fun e=>hne e.symm)
theorem divd_w (ex:Nat) (f:Nat×Nat) (D:Option Addr) (n C:Nat) (X P:Nat→Nat×Nat) (hp:∀j,j<n→∀w,Calls Tryz.prog 52 #[.agg #[.float .f64 (X j).1,.float .f64 (X j).2],.agg #[.float .f64 f.1,.float .f64 f.2]] w fun e w'=>e=.returned (.agg #[.float .f64 (P j).1,.float .f64 (P j).2])∧Below w.heap.size w w') (w:World) (hx:ex<w.heap.size) (off:Off D n ex) (U:Ivs w D n X) :
   Calls Tryz.prog 190 #[.slice D n C,.agg #[.float .f64 f.1,.float .f64 f.2]] w fun e w'=>(∃fv,e=.returned fv∧Rule ex w' fv n P)∧Below w.heap.size w w':=by
 have HB:Below w.heap.size w ((w.alloc (Obj.cells #[.slice D n C] 46)).alloc (Obj.cells #[.float .f64 f.1,.float .f64 f.2] 24)):=by go_grown
 have A:Has2 ((w.alloc (Obj.cells #[.slice D n C] 46)).alloc (Obj.cells #[.float .f64 f.1,.float .f64 f.2] 24)) (w.heap.size+1) (.float .f64 f.1) (.float .f64 f.2):=⟨by go_simp,by go_simp,by go_simp,by go_simp,by go_size⟩
 have B:HasI ((w.alloc (Obj.cells #[.slice D n C] 46)).alloc (Obj.cells #[.float .f64 f.1,.float .f64 f.2] 24)) w.heap.size (.slice D n C):=⟨by go_simp,by go_size⟩
 go_enter Tryz.func190,Tryz.ntmps190
 go_wp2_with fail
 go_ret
 exact⟨⟨_,rfl,215,_,rfl,by unfold Lit;simp,fun j hj W hW=>cl_div f (P j) D n C X j hj (hp j hj) _ _ W (B.ex hW (by omega)) ((U.keep HB).ex hW off) (A.ex hW (by omega))⟩,HB⟩
theorem pr_zero (ex:Nat) (f:Nat×Nat) (D:Option Addr) (n C:Nat) (p:Nat×Nat) (c1:∀w,Calls Tryz.prog 57 #[.float .f64 0] w fun e w'=>e=.returned (.agg #[.float .f64 p.1,.float .f64 p.2])∧Below w.heap.size w w') (w:World) :
   Calls Tryz.prog 189 #[.agg #[.float .f64 f.1,.float .f64 f.2],.int .i64 0,.slice D n C] w fun e w'=>(∃fv,e=.returned fv∧Rule ex w' fv n (fun _=>p))∧Below w.heap.size w w':=by
 go_enter Tryz.func189,Tryz.ntmps189
 go_wp2_with fail
 go_ret
 exact⟨⟨_,rfl,181,_,rfl,by unfold Lit;simp,fun j hj W hW=>noSlope_w _ p c1 W⟩,by go_grown⟩
set_option maxHeartbeats 1000000 in
theorem pr_some (ex:Nat) (f:Nat×Nat) (N:Int) (hN:¬N=0) (hN0:-1000000≤N) (hN1:N≤1000000) (D:Option Addr) (n C:Nat) (X P:Nat→Nat×Nat) (a b c:Nat×Nat) (c1:∀w,Calls Tryz.prog 57 #[.float .f64 (floatOfInt .f64 N)] w fun e w'=>e=.returned (.agg #[.float .f64 a.1,.float .f64 a.2])∧Below w.heap.size w w') (c2:∀w,Calls Tryz.prog 175 #[.agg #[.float .f64 f.1,.float .f64 f.2],.int .i64 (N-1)] w fun e w'=>e=.returned (.agg #[.float .f64 b.1,.float .f64 b.2])∧Below w.heap.size w w') (c3:∀w,Calls Tryz.prog 56 #[.agg #[.float .f64 a.1,.float .f64 a.2],.agg #[.float .f64 b.1,.float .f64 b.2]] w fun e w'=>e=.returned (.agg #[.float .f64 c.1,.float .f64 c.2])∧Below w.heap.size w w') (hp:∀j,j<n→∀w,Calls Tryz.prog 56 #[.agg #[.float .f64 c.1,.float .f64 c.2],.agg #[.float .f64 (X j).1,.float .f64 (X j).2]] w fun e w'=>e=.returned (.agg #[.float .f64 (P j).1,.float .f64 (P j).2])∧Below w.heap.size w w') (w:World) (hx:ex<w.heap.size) (off:Off D n ex) (U:Ivs w D n X) :
   Calls Tryz.prog 189 #[.agg #[.float .f64 f.1,.float .f64 f.2],.int .i64 N,.slice D n C] w fun e w'=>(∃fv,e=.returned fv∧Rule ex w' fv n P)∧Below w.heap.size w w':=by
 have A:Has2 (w.alloc (.cells #[.float .f64 f.1,.float .f64 f.2] 24)) w.heap.size (.float .f64 f.1) (.float .f64 f.2):=has2_new _ _ _ _
 have HB:Below w.heap.size w (w.alloc (.cells #[.float .f64 f.1,.float .f64 f.2] 24)):=by go_grown
 have cm:=fun W (hW:Below w.heap.size w W)=>mult_w ex c D n C X P hp W (Nat.lt_of_lt_of_le hx hW.size) off (U.keep hW)
 go_enter Tryz.func189,Tryz.ntmps189
 go_upto_region 3 with fail
 generalize (w.alloc (.cells #[.float .f64 f.1,.float .f64 f.2] 24))=V1 at *
 have ka0:=fun n:Behind V1=>n.cell A.1 A.2.2.2.2
 have ka1:=fun n:Behind V1=>n.cell A.2.1 A.2.2.2.2
 refine tail_behind 9 (by kernel_rfl) (by kernel_rfl) ?_
 simp only [List.take_succ_cons,List.take_zero,List.drop_succ_cons,List.drop_zero]
 repeat (go_big_quiet_step (first
   | (go_at_call 57;with_reducible refine Behind.call (c1 _))
   | (go_at_call 175;with_reducible refine Behind.call (c2 _))
   | (go_at_call 56;with_reducible refine Behind.call (c3 _))))
 refine wpQuiet_nil ?_
 rintro _ ⟨m',rfl⟩
 obtain⟨W,hb1⟩:=m'
 dsimp only
 clear ka0 ka1 A
 replace HB:=later HB hb1
 go_wp2_with (go_at_call 191;refine (cm _ HB).mono ?_;rintro _ V5 ⟨⟨fv,rfl,hR⟩,hb5⟩;replace HB:=later HB hb5)
 go_ret
 exact⟨⟨_,rfl,hR.rule⟩,HB⟩
set_option maxHeartbeats 1000000 in
theorem near_core (x:Nat×Nat) (m r:Nat) (k:Int) (c1:∀w,Calls Tryz.prog 150 #[.agg #[.float .f64 x.1,.float .f64 x.2]] w fun e w'=>e=.returned (.float .f64 m)∧Below w.heap.size w w') (ha:∀w,(binOp .add 22 (.float .f64 m) (.float .f64 4602678819172646912)).run Tryz.prog w=.ok (.float .f64 r) w)
   (c2:∀w,Calls Tryz.prog 149 #[.float .f64 r] w fun e w'=>e=.returned (.int .i64 k)∧w=w') (w:World):Calls Tryz.prog 100 #[.agg #[.float .f64 x.1,.float .f64 x.2]] w fun e w'=>e=.returned (.int .i64 k)∧Below w.heap.size w w':=by
 go_enter Tryz.func100,Tryz.ntmps100
 go_wp2_with (first
   | (go_at_call 150;with_reducible refine (c1 _).mono ?_;rintro _ V1 ⟨rfl,hb1⟩;have HB:Below w.heap.size w V1:=later (by go_grown) hb1)
   | (go_at_call 149;with_reducible refine (c2 _).mono ?_;rintro _ V2 ⟨rfl,rfl⟩))
 go_ret
 exact⟨rfl,HB⟩
def halfUp (m:Nat):Nat:=(Ieee.double.add m 4602678819172646912).getD 0
def nearI (x:Nat×Nat):Int:=flI (halfUp (midQ x))
theorem cNear {x:Nat×Nat} (hx:W2 x) (hb:midQ x%9223372036854775808<4832362400168542208) (w:World):Calls Tryz.prog 100 #[.agg #[.float .f64 x.1,.float .f64 x.2]] w fun e w'=>e=.returned (.int .i64 (nearI x))∧Below w.heap.size w w':=by
 obtain⟨r,e,l,b⟩:=add_small (midQ x) 4602678819172646912 hb (by omega)
 have er:halfUp (midQ x)=r:=by unfold halfUp;rw [e];rfl
 unfold nearI
 rw [er]
 exact near_core x _ r _ (fun w=>cMid hx w) (fun w=>run_float_arith w .add 22 .f64 _ _ r e) (fun w=>floor_w r l (by omega) w) w
theorem nearI_in {x:Nat×Nat} (hb:midQ x%9223372036854775808<4832362400168542208):-9007199254740993≤nearI x∧nearI x≤9007199254740992:=by
 obtain⟨r,e,l,b⟩:=add_small (midQ x) 4602678819172646912 hb (by omega)
 have er:halfUp (midQ x)=r:=by unfold halfUp;rw [e];rfl
 unfold nearI
 rw [er]
 exact flI_in r (by omega)
def pw2 (k:Int):Nat:=((k+1023)%18446744073709551616*4503599627370496%18446744073709551616).toNat
theorem pw2_lt (k:Int):pw2 k<18446744073709551616:=by unfold pw2;omega
set_option maxHeartbeats 1000000 in
theorem pow2_core (k:Int) (hk:-20000000000000000≤k∧k≤20000000000000000) (p:Nat×Nat) (c1:∀w,Calls Tryz.prog 57 #[.float .f64 (pw2 k)] w fun e w'=>e=.returned (.agg #[.float .f64 p.1,.float .f64 p.2])∧Below w.heap.size w w') (w:World):Calls Tryz.prog 151 #[.int .i64 k] w fun e w'=>e=.returned (.agg #[.float .f64 p.1,.float .f64 p.2])∧Below w.heap.size w w':=by
 have R:Has2 (w.alloc (.cells #[.float .f64 0,.float .f64 0] 24)) w.heap.size (.float .f64 0) (.float .f64 0):=has2_new _ _ _ _
 have HB:Below w.heap.size w (w.alloc (.cells #[.float .f64 0,.float .f64 0] 24)):=by go_grown
 unfold pw2 at c1
 go_enter Tryz.func151,Tryz.ntmps151
 go_wp2_with (go_at_call 57;refine (c1 _).mono ?_;rintro _ V1 ⟨rfl,hb1⟩;replace R:=R.keep hb1;replace HB:=later HB hb1;clear hb1;obtain⟨k0,k1,k2,k3,k4⟩:=id R)
 refine bodyPost_ret (v:=.agg #[.float .f64 p.1,.float .f64 p.2]) (by simp [results,Tryz.results151,go_sem, *]) rfl ⟨rfl, ?_⟩;repeat' (first | (with_reducible exact HB) | (with_reducible refine Below.setCell ?_ ?_ _) | go_size)
theorem cPow2 (k:Int) (hk:-20000000000000000≤k∧k≤20000000000000000) (w:World):Calls Tryz.prog 151 #[.int .i64 k] w fun e w'=>e=.returned (.agg #[.float .f64 (ptQ (pw2 k)).1,.float .f64 (ptQ (pw2 k)).2])∧Below w.heap.size w w':=pow2_core k hk _ (fun w=>cPoint (pw2_lt k) w) w
set_option maxHeartbeats 1000000 in
theorem scaled_core (x a b m s:Nat×Nat) (k h g:Int) (hk:-10000000000000000≤k∧k≤10000000000000000) (eh:k.tdiv 2=h) (eg:k-h=g) (c1:∀w,Calls Tryz.prog 151 #[.int .i64 h] w fun e w'=>e=.returned (.agg #[.float .f64 a.1,.float .f64 a.2])∧Below w.heap.size w w') (c2:∀w,Calls Tryz.prog 151 #[.int .i64 g] w fun e w'=>e=.returned (.agg #[.float .f64 b.1,.float .f64 b.2])∧Below w.heap.size w w') (c3:∀w,Calls Tryz.prog 56 #[.agg #[.float .f64 x.1,.float .f64 x.2],.agg #[.float .f64 a.1,.float .f64 a.2]] w fun e w'=>e=.returned (.agg #[.float .f64 m.1,.float .f64 m.2])∧Below w.heap.size w w') (c4:∀w,Calls Tryz.prog 56 #[.agg #[.float .f64 m.1,.float .f64 m.2],.agg #[.float .f64 b.1,.float .f64 b.2]] w fun e w'=>e=.returned (.agg #[.float .f64 s.1,.float .f64 s.2])∧Below w.heap.size w w') (w:World):Calls Tryz.prog 101 #[.agg #[.float .f64 x.1,.float .f64 x.2],.int .i64 k] w fun e w'=>e=.returned (.agg #[.float .f64 s.1,.float .f64 s.2])∧Below w.heap.size w w':=by
 obtain⟨X,R,HB⟩:=enter1 w (.float .f64 x.1) (.float .f64 x.2) 24
 have hh:-10000000000000000≤h∧h≤10000000000000000:=by have ht:(k.tdiv 2).natAbs=k.natAbs/2:=Int.natAbs_tdiv k 2;omega
 go_enter Tryz.func101,Tryz.ntmps101
 go_upto_region 2 with fail
 generalize (w.alloc (.cells #[.float .f64 x.1,.float .f64 x.2] 24)).alloc (.cells #[.float .f64 0,.float .f64 0] 24)=V1 at *
 have kX0:=fun n:Behind V1=>n.cell X.1 X.2.2.2.2;have kX1:=fun n:Behind V1=>n.cell X.2.1 X.2.2.2.2
 refine tail_behind 9 (by kernel_rfl) (by kernel_rfl) ?_
 simp only [List.take_succ_cons,List.take_zero,List.drop_succ_cons,List.drop_zero]
 repeat (go_big_quiet_step (first | (go_at_call 151;with_reducible refine Behind.call (c1 _)) | (go_at_call 151;with_reducible refine Behind.call (c2 _)) | (go_at_call 56;with_reducible refine Behind.call (c3 _)) | (go_at_call 56;with_reducible refine Behind.call (c4 _))))
 refine wpQuiet_nil ?_
 rintro _ ⟨m',rfl⟩
 obtain⟨W,hb1⟩:=m'
 dsimp only
 clear kX0 kX1
 replace R:=R.keep hb1;replace HB:=later HB hb1;clear hb1
 obtain⟨k0,k1,k2,k3,k4⟩:=id R
 go_wp2_with fail
 refine bodyPost_ret (v:=.agg #[.float .f64 s.1,.float .f64 s.2]) (by simp [results,Tryz.results101,go_sem, *]) rfl ⟨rfl, ?_⟩;repeat' (first | (with_reducible exact HB) | (with_reducible refine Below.setCell ?_ ?_ _) | go_size)
def scaledQ (x:Nat×Nat) (k:Int):Nat×Nat:=mulQ (mulQ x (ptQ (pw2 (k.tdiv 2)))) (ptQ (pw2 (k-k.tdiv 2)))
theorem cScaled {x:Nat×Nat} (hx:W2 x) (k:Int) (hk:-10000000000000000≤k∧k≤10000000000000000) (w:World):Calls Tryz.prog 101 #[.agg #[.float .f64 x.1,.float .f64 x.2],.int .i64 k] w fun e w'=>e=.returned (.agg #[.float .f64 (scaledQ x k).1,.float .f64 (scaledQ x k).2])∧Below w.heap.size w w':=by
 have h1:-10000000000000000≤k.tdiv 2∧k.tdiv 2≤10000000000000000:=by have ht:(k.tdiv 2).natAbs=k.natAbs/2:=Int.natAbs_tdiv k 2;omega
 exact scaled_core x _ _ _ _ k _ _ hk rfl rfl (fun w=>cPow2 _ (by omega) w) (fun w=>cPow2 _ (by omega) w) (fun w=>cMul hx (ptQ_W2 (pw2_lt _)) w) (fun w=>cMul (mulQ_W2 hx (ptQ_W2 (pw2_lt _))) (ptQ_W2 (pw2_lt _)) w) w
theorem scaledQ_W2 {x:Nat×Nat} (hx:W2 x) (k:Int):W2 (scaledQ x k):=mulQ_W2 (mulQ_W2 hx (ptQ_W2 (pw2_lt _))) (ptQ_W2 (pw2_lt _))
end Go.Proofs.YtfdelmgingefkaaGreat
