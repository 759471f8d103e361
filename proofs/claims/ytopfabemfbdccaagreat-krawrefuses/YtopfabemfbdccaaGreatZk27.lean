/- Slopes: each closure that an operation's rule is. Slopes: what answers the closures. slices.Clone of a slice of intervals. -/
import Derived.Test.YtopfabemfbdccaaGreatZk26
import Derived.Test.YtopfabemfbdccaaGreatZk25
import Derived.Test.YtopfabemfbdccaaGreatZk21
import Derived.Test.YtopfabemfbdccaaGreatZk22
import Derived.Lib.SliceRun
namespace Go.Proofs.YtopfabemfbdccaaGreat
open Go.ChangeShapes Go.WideShapes Go.ChangeAt Go.RowKit
set_option maxHeartbeats 1000000 in
theorem cl_mul (f p:Nat×Nat) (Da:Option Addr) (na Ca:Nat) (Xa:Nat->Nat×Nat) (j:Nat) (ha:j<na) (c1:∀w,Calls Tryz.prog 54 #[.agg #[.float .f64 f.1,.float .f64 f.2],.agg #[.float .f64 (Xa j).1,.float .f64 (Xa j).2]] w fun e w'=>e=.returned (.agg #[.float .f64 p.1,.float .f64 p.2])/\Below w.heap.size w w') (bf ba:Nat) (w:World) (Bf:Has2 w bf (.float .f64 f.1) (.float .f64 f.2)) (Ba:HasI w ba (.slice Da na Ca)) (Ua:Ivs w Da na Xa) :
  Calls Tryz.prog 243 #[.int .i64 (j:Int),.pointer (some ⟨bf,0,none⟩),.pointer (some ⟨ba,0,none⟩)] w fun e w'=>e=.returned (.agg #[.float .f64 p.1,.float .f64 p.2])/\Below w.heap.size w w':=by
 have R:Has2 (w.alloc (.cells #[.float .f64 0,.float .f64 0] 24)) w.heap.size (.float .f64 0) (.float .f64 0):=has2_new _ _ _ _
 have HB:Below w.heap.size w (w.alloc (.cells #[.float .f64 0,.float .f64 0] 24)):=by go_grown
 replace Bf:=Bf.keep HB
 replace Ba:=Ba.keep HB
 obtain⟨xa,oa,rfl,la,ea0,ea1, -⟩:=(Ua.keep HB) j ha
 have lta:(j:Int)<(na:Int):=by omega
 go_enter Tryz.func243,Tryz.ntmps243
 go_upto_region 1 with fail
 generalize (w.alloc (.cells #[.float .f64 0,.float .f64 0] 24))=V1 at *
 have kf0:=fun n:Behind V1=>n.cell Bf.1 Bf.2.2.2.2
 have kf1:=fun n:Behind V1=>n.cell Bf.2.1 Bf.2.2.2.2
 have ka:=fun n:Behind V1=>n.cell Ba.1 Ba.2
 have ka0:=fun n:Behind V1=>n.cell ea0 la
 have ka1:=fun n:Behind V1=>n.cell ea1 la
 refine tail_behind 6 (by kernel_rfl) (by kernel_rfl) ?_
 simp only [List.take_succ_cons,List.take_zero,List.drop_succ_cons,List.drop_zero]
 repeat (go_big_quiet_step (first | (go_at_call 54;with_reducible refine Behind.call (c1 _))))
 refine wpQuiet_nil ?_
 rintro _ ⟨m',rfl⟩
 obtain⟨W,hb1⟩:=m'
 dsimp only
 skip
 replace R:=R.keep hb1;replace HB:=later HB hb1;clear hb1
 obtain⟨k0,k1,k2,k3,k4⟩:=id R
 go_wp2_with fail
 refine bodyPost_ret (v:=.agg #[.float .f64 p.1,.float .f64 p.2]) (by simp [results,Tryz.results243,go_sem, *]) rfl ⟨rfl, ?_⟩;repeat' (first | (with_reducible exact HB) | (with_reducible refine Below.setCell ?_ ?_ _) | go_size)
set_option maxHeartbeats 1000000 in
theorem cl_div (f p:Nat×Nat) (Da:Option Addr) (na Ca:Nat) (Xa:Nat->Nat×Nat) (j:Nat) (ha:j<na) (c1:∀w,Calls Tryz.prog 50 #[.agg #[.float .f64 (Xa j).1,.float .f64 (Xa j).2],.agg #[.float .f64 f.1,.float .f64 f.2]] w fun e w'=>e=.returned (.agg #[.float .f64 p.1,.float .f64 p.2])/\Below w.heap.size w w') (ba bf:Nat) (w:World) (Ba:HasI w ba (.slice Da na Ca)) (Ua:Ivs w Da na Xa) (Bf:Has2 w bf (.float .f64 f.1) (.float .f64 f.2)) :
  Calls Tryz.prog 242 #[.int .i64 (j:Int),.pointer (some ⟨ba,0,none⟩),.pointer (some ⟨bf,0,none⟩)] w fun e w'=>e=.returned (.agg #[.float .f64 p.1,.float .f64 p.2])/\Below w.heap.size w w':=by
 have R:Has2 (w.alloc (.cells #[.float .f64 0,.float .f64 0] 24)) w.heap.size (.float .f64 0) (.float .f64 0):=has2_new _ _ _ _
 have HB:Below w.heap.size w (w.alloc (.cells #[.float .f64 0,.float .f64 0] 24)):=by go_grown
 replace Ba:=Ba.keep HB
 obtain⟨xa,oa,rfl,la,ea0,ea1, -⟩:=(Ua.keep HB) j ha
 have lta:(j:Int)<(na:Int):=by omega
 replace Bf:=Bf.keep HB
 go_enter Tryz.func242,Tryz.ntmps242
 go_upto_region 1 with fail
 generalize (w.alloc (.cells #[.float .f64 0,.float .f64 0] 24))=V1 at *
 have ka:=fun n:Behind V1=>n.cell Ba.1 Ba.2
 have ka0:=fun n:Behind V1=>n.cell ea0 la
 have ka1:=fun n:Behind V1=>n.cell ea1 la
 have kf0:=fun n:Behind V1=>n.cell Bf.1 Bf.2.2.2.2
 have kf1:=fun n:Behind V1=>n.cell Bf.2.1 Bf.2.2.2.2
 refine tail_behind 6 (by kernel_rfl) (by kernel_rfl) ?_
 simp only [List.take_succ_cons,List.take_zero,List.drop_succ_cons,List.drop_zero]
 repeat (go_big_quiet_step (first | (go_at_call 50;with_reducible refine Behind.call (c1 _))))
 refine wpQuiet_nil ?_
 rintro _ ⟨m',rfl⟩
 obtain⟨W,hb1⟩:=m'
 dsimp only
 skip
 replace R:=R.keep hb1;replace HB:=later HB hb1;clear hb1
 obtain⟨k0,k1,k2,k3,k4⟩:=id R
 go_wp2_with fail
 refine bodyPost_ret (v:=.agg #[.float .f64 p.1,.float .f64 p.2]) (by simp [results,Tryz.results242,go_sem, *]) rfl ⟨rfl, ?_⟩;repeat' (first | (with_reducible exact HB) | (with_reducible refine Below.setCell ?_ ?_ _) | go_size)
set_option maxHeartbeats 1000000 in
theorem cl_add (p:Nat×Nat) (Da:Option Addr) (na Ca:Nat) (Xa:Nat->Nat×Nat) (Dd:Option Addr) (nd Cd:Nat) (Xd:Nat->Nat×Nat) (j:Nat) (ha:j<na) (hd:j<nd) (c1:∀w,Calls Tryz.prog 61 #[.agg #[.float .f64 (Xa j).1,.float .f64 (Xa j).2],.agg #[.float .f64 (Xd j).1,.float .f64 (Xd j).2]] w fun e w'=>e=.returned (.agg #[.float .f64 p.1,.float .f64 p.2])/\Below w.heap.size w w') (ba bd:Nat) (w:World) (Ba:HasI w ba (.slice Da na Ca)) (Ua:Ivs w Da na Xa) (Bd:HasI w bd (.slice Dd nd Cd)) (Ud:Ivs w Dd nd Xd) :
  Calls Tryz.prog 197 #[.int .i64 (j:Int),.pointer (some ⟨ba,0,none⟩),.pointer (some ⟨bd,0,none⟩)] w fun e w'=>e=.returned (.agg #[.float .f64 p.1,.float .f64 p.2])/\Below w.heap.size w w':=by
 have R:Has2 (w.alloc (.cells #[.float .f64 0,.float .f64 0] 24)) w.heap.size (.float .f64 0) (.float .f64 0):=has2_new _ _ _ _
 have HB:Below w.heap.size w (w.alloc (.cells #[.float .f64 0,.float .f64 0] 24)):=by go_grown
 replace Ba:=Ba.keep HB
 obtain⟨xa,oa,rfl,la,ea0,ea1, -⟩:=(Ua.keep HB) j ha
 have lta:(j:Int)<(na:Int):=by omega
 replace Bd:=Bd.keep HB
 obtain⟨xd,od,rfl,ld,ed0,ed1, -⟩:=(Ud.keep HB) j hd
 have ltd:(j:Int)<(nd:Int):=by omega
 go_enter Tryz.func197,Tryz.ntmps197
 go_upto_region 1 with fail
 generalize (w.alloc (.cells #[.float .f64 0,.float .f64 0] 24))=V1 at *
 have ka:=fun n:Behind V1=>n.cell Ba.1 Ba.2
 have ka0:=fun n:Behind V1=>n.cell ea0 la
 have ka1:=fun n:Behind V1=>n.cell ea1 la
 have kd:=fun n:Behind V1=>n.cell Bd.1 Bd.2
 have kd0:=fun n:Behind V1=>n.cell ed0 ld
 have kd1:=fun n:Behind V1=>n.cell ed1 ld
 refine tail_behind 9 (by kernel_rfl) (by kernel_rfl) ?_
 simp only [List.take_succ_cons,List.take_zero,List.drop_succ_cons,List.drop_zero]
 repeat (go_big_quiet_step (first | (go_at_call 61;with_reducible refine Behind.call (c1 _))))
 refine wpQuiet_nil ?_
 rintro _ ⟨m',rfl⟩
 obtain⟨W,hb1⟩:=m'
 dsimp only
 skip
 replace R:=R.keep hb1;replace HB:=later HB hb1;clear hb1
 obtain⟨k0,k1,k2,k3,k4⟩:=id R
 go_wp2_with fail
 refine bodyPost_ret (v:=.agg #[.float .f64 p.1,.float .f64 p.2]) (by simp [results,Tryz.results197,go_sem, *]) rfl ⟨rfl, ?_⟩;repeat' (first | (with_reducible exact HB) | (with_reducible refine Below.setCell ?_ ?_ _) | go_size)
set_option maxHeartbeats 1000000 in
theorem cl_sub (p:Nat×Nat) (Da:Option Addr) (na Ca:Nat) (Xa:Nat->Nat×Nat) (Dd:Option Addr) (nd Cd:Nat) (Xd:Nat->Nat×Nat) (j:Nat) (ha:j<na) (hd:j<nd) (c1:∀w,Calls Tryz.prog 56 #[.agg #[.float .f64 (Xa j).1,.float .f64 (Xa j).2],.agg #[.float .f64 (Xd j).1,.float .f64 (Xd j).2]] w fun e w'=>e=.returned (.agg #[.float .f64 p.1,.float .f64 p.2])/\Below w.heap.size w w') (ba bd:Nat) (w:World) (Ba:HasI w ba (.slice Da na Ca)) (Ua:Ivs w Da na Xa) (Bd:HasI w bd (.slice Dd nd Cd)) (Ud:Ivs w Dd nd Xd) :
  Calls Tryz.prog 198 #[.int .i64 (j:Int),.pointer (some ⟨ba,0,none⟩),.pointer (some ⟨bd,0,none⟩)] w fun e w'=>e=.returned (.agg #[.float .f64 p.1,.float .f64 p.2])/\Below w.heap.size w w':=by
 have R:Has2 (w.alloc (.cells #[.float .f64 0,.float .f64 0] 24)) w.heap.size (.float .f64 0) (.float .f64 0):=has2_new _ _ _ _
 have HB:Below w.heap.size w (w.alloc (.cells #[.float .f64 0,.float .f64 0] 24)):=by go_grown
 replace Ba:=Ba.keep HB
 obtain⟨xa,oa,rfl,la,ea0,ea1, -⟩:=(Ua.keep HB) j ha
 have lta:(j:Int)<(na:Int):=by omega
 replace Bd:=Bd.keep HB
 obtain⟨xd,od,rfl,ld,ed0,ed1, -⟩:=(Ud.keep HB) j hd
 have ltd:(j:Int)<(nd:Int):=by omega
 go_enter Tryz.func198,Tryz.ntmps198
 go_upto_region 1 with fail
 generalize (w.alloc (.cells #[.float .f64 0,.float .f64 0] 24))=V1 at *
 have ka:=fun n:Behind V1=>n.cell Ba.1 Ba.2
 have ka0:=fun n:Behind V1=>n.cell ea0 la
 have ka1:=fun n:Behind V1=>n.cell ea1 la
 have kd:=fun n:Behind V1=>n.cell Bd.1 Bd.2
 have kd0:=fun n:Behind V1=>n.cell ed0 ld
 have kd1:=fun n:Behind V1=>n.cell ed1 ld
 refine tail_behind 9 (by kernel_rfl) (by kernel_rfl) ?_
 simp only [List.take_succ_cons,List.take_zero,List.drop_succ_cons,List.drop_zero]
 repeat (go_big_quiet_step (first | (go_at_call 56;with_reducible refine Behind.call (c1 _))))
 refine wpQuiet_nil ?_
 rintro _ ⟨m',rfl⟩
 obtain⟨W,hb1⟩:=m'
 dsimp only
 skip
 replace R:=R.keep hb1;replace HB:=later HB hb1;clear hb1
 obtain⟨k0,k1,k2,k3,k4⟩:=id R
 go_wp2_with fail
 refine bodyPost_ret (v:=.agg #[.float .f64 p.1,.float .f64 p.2]) (by simp [results,Tryz.results198,go_sem, *]) rfl ⟨rfl, ?_⟩;repeat' (first | (with_reducible exact HB) | (with_reducible refine Below.setCell ?_ ?_ _) | go_size)
set_option maxHeartbeats 1000000 in
theorem cl_prod (g f p q s:Nat×Nat) (Da:Option Addr) (na Ca:Nat) (Xa:Nat->Nat×Nat) (Dd:Option Addr) (nd Cd:Nat) (Xd:Nat->Nat×Nat) (j:Nat) (ha:j<na) (hd:j<nd) (c1:∀w,Calls Tryz.prog 54 #[.agg #[.float .f64 (Xa j).1,.float .f64 (Xa j).2],.agg #[.float .f64 g.1,.float .f64 g.2]] w fun e w'=>e=.returned (.agg #[.float .f64 p.1,.float .f64 p.2])/\Below w.heap.size w w') (c2:∀w,Calls Tryz.prog 54 #[.agg #[.float .f64 f.1,.float .f64 f.2],.agg #[.float .f64 (Xd j).1,.float .f64 (Xd j).2]] w fun e w'=>e=.returned (.agg #[.float .f64 q.1,.float .f64 q.2])/\Below w.heap.size w w') (c3:∀w,Calls Tryz.prog 61 #[.agg #[.float .f64 p.1,.float .f64 p.2],.agg #[.float .f64 q.1,.float .f64 q.2]] w fun e w'=>e=.returned (.agg #[.float .f64 s.1,.float .f64 s.2])/\Below w.heap.size w w') (ba bg bf bd:Nat) (w:World) (Ba:HasI w ba (.slice Da na Ca)) (Ua:Ivs w Da na Xa) (Bg:Has2 w bg (.float .f64 g.1) (.float .f64 g.2)) (Bf:Has2 w bf (.float .f64 f.1) (.float .f64 f.2)) (Bd:HasI w bd (.slice Dd nd Cd)) (Ud:Ivs w Dd nd Xd) :
  Calls Tryz.prog 199 #[.int .i64 (j:Int),.pointer (some ⟨ba,0,none⟩),.pointer (some ⟨bg,0,none⟩),.pointer (some ⟨bf,0,none⟩),.pointer (some ⟨bd,0,none⟩)] w fun e w'=>e=.returned (.agg #[.float .f64 s.1,.float .f64 s.2])/\Below w.heap.size w w':=by
 have R:Has2 (w.alloc (.cells #[.float .f64 0,.float .f64 0] 24)) w.heap.size (.float .f64 0) (.float .f64 0):=has2_new _ _ _ _
 have HB:Below w.heap.size w (w.alloc (.cells #[.float .f64 0,.float .f64 0] 24)):=by go_grown
 replace Ba:=Ba.keep HB
 obtain⟨xa,oa,rfl,la,ea0,ea1, -⟩:=(Ua.keep HB) j ha
 have lta:(j:Int)<(na:Int):=by omega
 replace Bg:=Bg.keep HB
 replace Bf:=Bf.keep HB
 replace Bd:=Bd.keep HB
 obtain⟨xd,od,rfl,ld,ed0,ed1, -⟩:=(Ud.keep HB) j hd
 have ltd:(j:Int)<(nd:Int):=by omega
 go_enter Tryz.func199,Tryz.ntmps199
 go_upto_region 1 with fail
 generalize (w.alloc (.cells #[.float .f64 0,.float .f64 0] 24))=V1 at *
 have ka:=fun n:Behind V1=>n.cell Ba.1 Ba.2
 have ka0:=fun n:Behind V1=>n.cell ea0 la
 have ka1:=fun n:Behind V1=>n.cell ea1 la
 have kg0:=fun n:Behind V1=>n.cell Bg.1 Bg.2.2.2.2
 have kg1:=fun n:Behind V1=>n.cell Bg.2.1 Bg.2.2.2.2
 have kf0:=fun n:Behind V1=>n.cell Bf.1 Bf.2.2.2.2
 have kf1:=fun n:Behind V1=>n.cell Bf.2.1 Bf.2.2.2.2
 have kd:=fun n:Behind V1=>n.cell Bd.1 Bd.2
 have kd0:=fun n:Behind V1=>n.cell ed0 ld
 have kd1:=fun n:Behind V1=>n.cell ed1 ld
 refine tail_behind 13 (by kernel_rfl) (by kernel_rfl) ?_
 simp only [List.take_succ_cons,List.take_zero,List.drop_succ_cons,List.drop_zero]
 repeat (go_big_quiet_step (first | (go_at_call 54;with_reducible refine Behind.call (c1 _)) | (go_at_call 54;with_reducible refine Behind.call (c2 _)) | (go_at_call 61;with_reducible refine Behind.call (c3 _))))
 refine wpQuiet_nil ?_
 rintro _ ⟨m',rfl⟩
 obtain⟨W,hb1⟩:=m'
 dsimp only
 skip
 replace R:=R.keep hb1;replace HB:=later HB hb1;clear hb1
 obtain⟨k0,k1,k2,k3,k4⟩:=id R
 go_wp2_with fail
 refine bodyPost_ret (v:=.agg #[.float .f64 s.1,.float .f64 s.2]) (by simp [results,Tryz.results199,go_sem, *]) rfl ⟨rfl, ?_⟩;repeat' (first | (with_reducible exact HB) | (with_reducible refine Below.setCell ?_ ?_ _) | go_size)
set_option maxHeartbeats 1000000 in
theorem cl_quot (f g p q s:Nat×Nat) (Da:Option Addr) (na Ca:Nat) (Xa:Nat->Nat×Nat) (Dd:Option Addr) (nd Cd:Nat) (Xd:Nat->Nat×Nat) (j:Nat) (ha:j<na) (hd:j<nd) (c1:∀w,Calls Tryz.prog 54 #[.agg #[.float .f64 f.1,.float .f64 f.2],.agg #[.float .f64 (Xd j).1,.float .f64 (Xd j).2]] w fun e w'=>e=.returned (.agg #[.float .f64 p.1,.float .f64 p.2])/\Below w.heap.size w w') (c2:∀w,Calls Tryz.prog 56 #[.agg #[.float .f64 (Xa j).1,.float .f64 (Xa j).2],.agg #[.float .f64 p.1,.float .f64 p.2]] w fun e w'=>e=.returned (.agg #[.float .f64 q.1,.float .f64 q.2])/\Below w.heap.size w w') (c3:∀w,Calls Tryz.prog 50 #[.agg #[.float .f64 q.1,.float .f64 q.2],.agg #[.float .f64 g.1,.float .f64 g.2]] w fun e w'=>e=.returned (.agg #[.float .f64 s.1,.float .f64 s.2])/\Below w.heap.size w w') (ba bf bd bg:Nat) (w:World) (Ba:HasI w ba (.slice Da na Ca)) (Ua:Ivs w Da na Xa) (Bf:Has2 w bf (.float .f64 f.1) (.float .f64 f.2)) (Bd:HasI w bd (.slice Dd nd Cd)) (Ud:Ivs w Dd nd Xd) (Bg:Has2 w bg (.float .f64 g.1) (.float .f64 g.2)) :
  Calls Tryz.prog 200 #[.int .i64 (j:Int),.pointer (some ⟨ba,0,none⟩),.pointer (some ⟨bf,0,none⟩),.pointer (some ⟨bd,0,none⟩),.pointer (some ⟨bg,0,none⟩)] w fun e w'=>e=.returned (.agg #[.float .f64 s.1,.float .f64 s.2])/\Below w.heap.size w w':=by
 have R:Has2 (w.alloc (.cells #[.float .f64 0,.float .f64 0] 24)) w.heap.size (.float .f64 0) (.float .f64 0):=has2_new _ _ _ _
 have HB:Below w.heap.size w (w.alloc (.cells #[.float .f64 0,.float .f64 0] 24)):=by go_grown
 replace Ba:=Ba.keep HB
 obtain⟨xa,oa,rfl,la,ea0,ea1, -⟩:=(Ua.keep HB) j ha
 have lta:(j:Int)<(na:Int):=by omega
 replace Bf:=Bf.keep HB
 replace Bd:=Bd.keep HB
 obtain⟨xd,od,rfl,ld,ed0,ed1, -⟩:=(Ud.keep HB) j hd
 have ltd:(j:Int)<(nd:Int):=by omega
 replace Bg:=Bg.keep HB
 go_enter Tryz.func200,Tryz.ntmps200
 go_upto_region 1 with fail
 generalize (w.alloc (.cells #[.float .f64 0,.float .f64 0] 24))=V1 at *
 have ka:=fun n:Behind V1=>n.cell Ba.1 Ba.2
 have ka0:=fun n:Behind V1=>n.cell ea0 la
 have ka1:=fun n:Behind V1=>n.cell ea1 la
 have kf0:=fun n:Behind V1=>n.cell Bf.1 Bf.2.2.2.2
 have kf1:=fun n:Behind V1=>n.cell Bf.2.1 Bf.2.2.2.2
 have kd:=fun n:Behind V1=>n.cell Bd.1 Bd.2
 have kd0:=fun n:Behind V1=>n.cell ed0 ld
 have kd1:=fun n:Behind V1=>n.cell ed1 ld
 have kg0:=fun n:Behind V1=>n.cell Bg.1 Bg.2.2.2.2
 have kg1:=fun n:Behind V1=>n.cell Bg.2.1 Bg.2.2.2.2
 refine tail_behind 13 (by kernel_rfl) (by kernel_rfl) ?_
 simp only [List.take_succ_cons,List.take_zero,List.drop_succ_cons,List.drop_zero]
 repeat (go_big_quiet_step (first | (go_at_call 54;with_reducible refine Behind.call (c1 _)) | (go_at_call 56;with_reducible refine Behind.call (c2 _)) | (go_at_call 50;with_reducible refine Behind.call (c3 _))))
 refine wpQuiet_nil ?_
 rintro _ ⟨m',rfl⟩
 obtain⟨W,hb1⟩:=m'
 dsimp only
 skip
 replace R:=R.keep hb1;replace HB:=later HB hb1;clear hb1
 obtain⟨k0,k1,k2,k3,k4⟩:=id R
 go_wp2_with fail
 refine bodyPost_ret (v:=.agg #[.float .f64 s.1,.float .f64 s.2]) (by simp [results,Tryz.results200,go_sem, *]) rfl ⟨rfl, ?_⟩;repeat' (first | (with_reducible exact HB) | (with_reducible refine Below.setCell ?_ ?_ _) | go_size)
set_option maxHeartbeats 1000000 in
theorem cl_neg (p:Nat×Nat) (Da:Option Addr) (na Ca:Nat) (Xa:Nat->Nat×Nat) (j:Nat) (ha:j<na) (c1:∀w,Calls Tryz.prog 57 #[.agg #[.float .f64 (Xa j).1,.float .f64 (Xa j).2]] w fun e w'=>e=.returned (.agg #[.float .f64 p.1,.float .f64 p.2])/\Below w.heap.size w w') (ba:Nat) (w:World) (Ba:HasI w ba (.slice Da na Ca)) (Ua:Ivs w Da na Xa) :
  Calls Tryz.prog 201 #[.int .i64 (j:Int),.pointer (some ⟨ba,0,none⟩)] w fun e w'=>e=.returned (.agg #[.float .f64 p.1,.float .f64 p.2])/\Below w.heap.size w w':=by
 have R:Has2 (w.alloc (.cells #[.float .f64 0,.float .f64 0] 24)) w.heap.size (.float .f64 0) (.float .f64 0):=has2_new _ _ _ _
 have HB:Below w.heap.size w (w.alloc (.cells #[.float .f64 0,.float .f64 0] 24)):=by go_grown
 replace Ba:=Ba.keep HB
 obtain⟨xa,oa,rfl,la,ea0,ea1, -⟩:=(Ua.keep HB) j ha
 have lta:(j:Int)<(na:Int):=by omega
 go_enter Tryz.func201,Tryz.ntmps201
 go_upto_region 1 with fail
 generalize (w.alloc (.cells #[.float .f64 0,.float .f64 0] 24))=V1 at *
 obtain⟨p0,p1⟩:=id Ba
 obtain⟨k0,k1,k2,k3,k4⟩:=id R
 go_wp2_with (go_at_call 57;refine (c1 _).mono ?_;rintro _ VV ⟨rfl,hb1⟩;replace R:=R.keep hb1;replace HB:=later HB hb1;clear hb1;clear k0 k1 k2 k3 k4;obtain⟨k0,k1,k2,k3,k4⟩:=id R)
 refine bodyPost_ret (v:=.agg #[.float .f64 p.1,.float .f64 p.2]) (by simp [results,Tryz.results201,go_sem, *]) rfl ⟨rfl, ?_⟩;repeat' (first | (with_reducible exact HB) | (with_reducible refine Below.setCell ?_ ?_ _) | go_size)
theorem noSlope_w (j:Int) (p:Nat×Nat) (c1:∀w,Calls Tryz.prog 55 #[.float .f64 0] w fun e w'=>e=.returned (.agg #[.float .f64 p.1,.float .f64 p.2])/\Below w.heap.size w w') (w:World) :
  Calls Tryz.prog 194 #[.int .i64 j] w fun e w'=>e=.returned (.agg #[.float .f64 p.1,.float .f64 p.2])/\Below w.heap.size w w':=by
 have R:Has2 (w.alloc (.cells #[.float .f64 0,.float .f64 0] 24)) w.heap.size (.float .f64 0) (.float .f64 0):=has2_new _ _ _ _
 have HB:Below w.heap.size w (w.alloc (.cells #[.float .f64 0,.float .f64 0] 24)):=by go_grown
 go_enter Tryz.func194,Tryz.ntmps194
 go_upto_region 1 with fail
 generalize (w.alloc (.cells #[.float .f64 0,.float .f64 0] 24))=V1 at *
 obtain⟨k0,k1,k2,k3,k4⟩:=id R
 go_wp2_with (go_at_call 55;refine (c1 _).mono ?_;rintro _ VV ⟨rfl,hb1⟩;replace R:=R.keep hb1;replace HB:=later HB hb1;clear hb1;clear k0 k1 k2 k3 k4;obtain⟨k0,k1,k2,k3,k4⟩:=id R)
 refine bodyPost_ret (v:=.agg #[.float .f64 p.1,.float .f64 p.2]) (by simp [results,Tryz.results194,go_sem, *]) rfl ⟨rfl, ?_⟩;repeat' (first | (with_reducible exact HB) | (with_reducible refine Below.setCell ?_ ?_ _) | go_size)
theorem ownSlope_w (t:Bool) (p q:Nat×Nat) (c1:∀w,Calls Tryz.prog 55 #[.float .f64 0] w fun e w'=>e=.returned (.agg #[.float .f64 p.1,.float .f64 p.2])/\Below w.heap.size w w') (c2:∀w,Calls Tryz.prog 55 #[.float .f64 4607182418800017408] w fun e w'=>e=.returned (.agg #[.float .f64 q.1,.float .f64 q.2])/\Below w.heap.size w w') (w:World) :
  Calls Tryz.prog 196 #[.bool t] w fun e w'=>e=.returned (.agg #[.float .f64 (if t then q else p).1,.float .f64 (if t then q else p).2])/\Below w.heap.size w w':=by
 have R:Has2 (w.alloc (.cells #[.float .f64 0,.float .f64 0] 24)) w.heap.size (.float .f64 0) (.float .f64 0):=has2_new _ _ _ _
 have HB:Below w.heap.size w (w.alloc (.cells #[.float .f64 0,.float .f64 0] 24)):=by go_grown
 cases t
 ·go_enter Tryz.func196,Tryz.ntmps196
  go_upto_region 1 with fail
  generalize (w.alloc (.cells #[.float .f64 0,.float .f64 0] 24))=V1 at *
  obtain⟨k0,k1,k2,k3,k4⟩:=id R
  go_wp2_with (go_at_call 55;refine (c1 _).mono ?_;rintro _ VV ⟨rfl,hb1⟩;replace R:=R.keep hb1;replace HB:=later HB hb1;clear hb1;clear k0 k1 k2 k3 k4;obtain⟨k0,k1,k2,k3,k4⟩:=id R)
  refine bodyPost_ret (v:=.agg #[.float .f64 p.1,.float .f64 p.2]) (by simp [results,Tryz.results196,go_sem, *]) rfl ⟨rfl, ?_⟩;repeat' (first | (with_reducible exact HB) | (with_reducible refine Below.setCell ?_ ?_ _) | go_size)
 ·go_enter Tryz.func196,Tryz.ntmps196
  go_upto_region 1 with fail
  generalize (w.alloc (.cells #[.float .f64 0,.float .f64 0] 24))=V1 at *
  obtain⟨k0,k1,k2,k3,k4⟩:=id R
  go_wp2_with (go_at_call 55;refine (c2 _).mono ?_;rintro _ VV ⟨rfl,hb1⟩;replace R:=R.keep hb1;replace HB:=later HB hb1;clear hb1;clear k0 k1 k2 k3 k4;obtain⟨k0,k1,k2,k3,k4⟩:=id R)
  refine bodyPost_ret (v:=.agg #[.float .f64 q.1,.float .f64 q.2]) (by simp [results,Tryz.results196,go_sem, *]) rfl ⟨rfl, ?_⟩;repeat' (first | (with_reducible exact HB) | (with_reducible refine Below.setCell ?_ ?_ _) | go_size)
def Lit (g:FuncId) (caps:Array Value):Prop :=
 (g=194/\caps=#[])\/(∃x,g=195/\caps=#[x])\/(∃x y,g=197/\caps=#[x,y])\/(∃x y,g=198/\caps=#[x,y])\/(∃x y z u,g=199/\caps=#[x,y,z,u])\/(∃x y z u,g=200/\caps=#[x,y,z,u])\/(∃x,g=201/\caps=#[x])\/(∃x,g=205/\caps=#[x])\/(∃x y,g=242/\caps=#[x,y])\/(∃x y,g=243/\caps=#[x,y])
structure Bex (x:Nat) (w W:World):Prop where
 size:w.heap.size<=W.heap.size
 block:∀b,b<w.heap.size->b≠x->W.heap[b]?=w.heap[b]?
theorem Bex.of {w W:World} (x:Nat) (h:Below w.heap.size w W):Bex x w W:=⟨h.size,fun b hb _=>h.block b hb⟩
theorem Bex.trans {x:Nat} {w1 w2 w3:World} (h:Bex x w1 w2) (k:Bex x w2 w3):Bex x w1 w3:=⟨Nat.le_trans h.size k.size,fun b hb hne=>(k.block b (Nat.lt_of_lt_of_le hb h.size) hne).trans (h.block b hb hne)⟩
theorem Bex.set {x:Nat} {w W:World} (h:Bex x w W) (o:Nat) (v:Value):Bex x w (W.setCell ⟨x,o,none⟩ v):=⟨by rw [World.size_setCell];exact h.size,fun b hb hne=>by rw [Below.heap_setCell _ _ _ _ hne];exact h.block b hb hne⟩
theorem Bex.cell {x:Nat} {w W:World} (h:Bex x w W) {b o:Nat} {v:Value} (hc:w.cell? ⟨b,o,none⟩=some v) (hl:b<w.heap.size) (hne:b≠x):W.cell? ⟨b,o,none⟩=some v:=(World.cell?_of_block (w:=w) (h.block b hl hne)).trans hc
theorem Bex.frozen {x:Nat} {w W:World} (h:Bex x w W) {b o:Nat} (hc:w.frozen? ⟨b,o,none⟩=false) (hl:b<w.heap.size) (hne:b≠x):W.frozen? ⟨b,o,none⟩=false:=by
 unfold World.frozen? at *
 simp only [h.block b hl hne]
 exact hc
def Off (A:Option Addr) (n x:Nat):Prop:=0<n->∀b o,A=some ⟨b,o,none⟩->b≠x
theorem Has2.ex {x:Nat} {w W:World} {b:Nat} {u v:Value} (h:Has2 w b u v) (k:Bex x w W) (hne:b≠x):Has2 W b u v:=⟨k.cell h.1 h.2.2.2.2 hne,k.cell h.2.1 h.2.2.2.2 hne,k.frozen h.2.2.1 h.2.2.2.2 hne,k.frozen h.2.2.2.1 h.2.2.2.2 hne,Nat.lt_of_lt_of_le h.2.2.2.2 k.size⟩
theorem HasI.ex {x:Nat} {w W:World} {b:Nat} {u:Value} (h:HasI w b u) (k:Bex x w W) (hne:b≠x):HasI W b u:=⟨k.cell h.1 h.2 hne,Nat.lt_of_lt_of_le h.2 k.size⟩
theorem Ivs.ex {x:Nat} {w W:World} {A:Option Addr} {n:Nat} {X:Nat->Nat×Nat} (h:Ivs w A n X) (k:Bex x w W) (ho:Off A n x):Ivs W A n X:=fun i hi=>by
 obtain⟨b,o,e,l,c0,c1,r⟩:=h i hi
 have hne:=ho (by omega) b o e
 exact⟨b,o,e,Nat.lt_of_lt_of_le l k.size,k.cell c0 l hne,k.cell c1 l hne,r⟩
theorem Ivs.off {w:World} {A:Option Addr} {n x:Nat} {X:Nat->Nat×Nat} (h:Ivs w A n X) (hx:w.heap.size<=x):Off A n x:=fun hn b o e=>by
 obtain⟨b',o',e',l, -⟩:=h 0 hn
 rw [e] at e'
 cases e'
 omega
def Rule (x:Nat) (w:World) (fv:Value) (m:Nat) (G:Nat->Nat×Nat):Prop :=
 ∃g caps,fv=.func (.func g) #[] caps/\Lit g caps/\∀j,j<m->∀W,Bex x w W->Calls Tryz.prog g (#[.int .i64 (j:Int)]++caps) W fun e w'=>e=.returned (.agg #[.float .f64 (G j).1,.float .f64 (G j).2])/\Below W.heap.size W w'
def RuleM (ex:Nat) (w:World) (fv:Value) (m:Nat) (G:Nat->Nat×Nat):Prop :=
 ∃x y,fv=.func (.func 243) #[] #[x,y]/\∀j,j<m->∀W,Bex ex w W->Calls Tryz.prog 243 #[.int .i64 (j:Int),x,y] W fun e w'=>e=.returned (.agg #[.float .f64 (G j).1,.float .f64 (G j).2])/\Below W.heap.size W w'
theorem RuleM.rule {ex:Nat} {w:World} {fv:Value} {m:Nat} {G:Nat->Nat×Nat} (h:RuleM ex w fv m G):Rule ex w fv m G:=by
 obtain⟨x,y,e,c⟩:=h
 exact⟨_,_,e,by unfold Lit;simp,fun j hj W hW=>c j hj W hW⟩
theorem mult_w (ex:Nat) (f:Nat×Nat) (D:Option Addr) (n C:Nat) (X P:Nat->Nat×Nat) (hp:∀j,j<n->∀w,Calls Tryz.prog 54 #[.agg #[.float .f64 f.1,.float .f64 f.2],.agg #[.float .f64 (X j).1,.float .f64 (X j).2]] w fun e w'=>e=.returned (.agg #[.float .f64 (P j).1,.float .f64 (P j).2])/\Below w.heap.size w w') (w:World) (hx:ex<w.heap.size) (off:Off D n ex) (U:Ivs w D n X) :
  Calls Tryz.prog 204 #[.agg #[.float .f64 f.1,.float .f64 f.2],.slice D n C] w fun e w'=>(∃fv,e=.returned fv/\RuleM ex w' fv n P)/\Below w.heap.size w w':=by
 have HB:Below w.heap.size w ((w.alloc (Obj.cells #[.float .f64 f.1,.float .f64 f.2] 24)).alloc (Obj.cells #[.slice D n C] 46)):=by go_grown
 have A:Has2 ((w.alloc (Obj.cells #[.float .f64 f.1,.float .f64 f.2] 24)).alloc (Obj.cells #[.slice D n C] 46)) w.heap.size (.float .f64 f.1) (.float .f64 f.2):=⟨by go_simp,by go_simp,by go_simp,by go_simp,by go_size⟩
 have B:HasI ((w.alloc (Obj.cells #[.float .f64 f.1,.float .f64 f.2] 24)).alloc (Obj.cells #[.slice D n C] 46)) (w.heap.size+1) (.slice D n C):=⟨by go_simp,by go_size⟩
 go_enter Tryz.func204,Tryz.ntmps204
 go_wp2_with fail
 go_ret
 exact⟨⟨_,rfl,_,_,rfl,fun j hj W hW=>cl_mul f (P j) D n C X j hj (hp j hj) _ _ W (A.ex hW (by omega)) (B.ex hW (by omega)) ((U.keep HB).ex hW off)⟩,HB⟩
theorem mult_c (f:Nat×Nat) (D:Option Addr) (n C:Nat) (w:World) :
  Calls Tryz.prog 204 #[.agg #[.float .f64 f.1,.float .f64 f.2],.slice D n C] w fun e w'=>(∃bf ba,e=.returned (.func (.func 243) #[] #[.pointer (some ⟨bf,0,none⟩),.pointer (some ⟨ba,0,none⟩)])/\w.heap.size<=bf/\w.heap.size<=ba/\Has2 w' bf (.float .f64 f.1) (.float .f64 f.2)/\HasI w' ba (.slice D n C))/\Below w.heap.size w w':=by
 have HB:Below w.heap.size w ((w.alloc (Obj.cells #[.float .f64 f.1,.float .f64 f.2] 24)).alloc (Obj.cells #[.slice D n C] 46)):=by go_grown
 have A:Has2 ((w.alloc (Obj.cells #[.float .f64 f.1,.float .f64 f.2] 24)).alloc (Obj.cells #[.slice D n C] 46)) w.heap.size (.float .f64 f.1) (.float .f64 f.2):=⟨by go_simp,by go_simp,by go_simp,by go_simp,by go_size⟩
 have B:HasI ((w.alloc (Obj.cells #[.float .f64 f.1,.float .f64 f.2] 24)).alloc (Obj.cells #[.slice D n C] 46)) (w.heap.size+1) (.slice D n C):=⟨by go_simp,by go_size⟩
 go_enter Tryz.func204,Tryz.ntmps204
 go_wp2_with fail
 go_ret
 exact⟨⟨w.heap.size,w.heap.size+1,rfl,Nat.le_refl _,Nat.le_succ _,A,B⟩,HB⟩
theorem Has2.far1 {w:World} {b c o:Nat} {x y:Value} (h:Has2 w b x y) (hne:c≠b) (v:Value):Has2 (w.setCell ⟨c,o,none⟩ v) b x y:=by
 have k:Bex c w (w.setCell ⟨c,o,none⟩ v):=Bex.set ⟨Nat.le_refl _,fun _ _ _=>rfl⟩ o v
 exact h.ex k (fun e=>hne e.symm)
theorem HasI.far1 {w:World} {b c o:Nat} {x:Value} (h:HasI w b x) (hne:c≠b) (v:Value):HasI (w.setCell ⟨c,o,none⟩ v) b x:=by
 have k:Bex c w (w.setCell ⟨c,o,none⟩ v):=Bex.set ⟨Nat.le_refl _,fun _ _ _=>rfl⟩ o v
 exact h.ex k (fun e=>hne e.symm)
theorem divd_w (ex:Nat) (f:Nat×Nat) (D:Option Addr) (n C:Nat) (X P:Nat->Nat×Nat) (hp:∀j,j<n->∀w,Calls Tryz.prog 50 #[.agg #[.float .f64 (X j).1,.float .f64 (X j).2],.agg #[.float .f64 f.1,.float .f64 f.2]] w fun e w'=>e=.returned (.agg #[.float .f64 (P j).1,.float .f64 (P j).2])/\Below w.heap.size w w') (w:World) (hx:ex<w.heap.size) (off:Off D n ex) (U:Ivs w D n X) :
  Calls Tryz.prog 203 #[.slice D n C,.agg #[.float .f64 f.1,.float .f64 f.2]] w fun e w'=>(∃fv,e=.returned fv/\Rule ex w' fv n P)/\Below w.heap.size w w':=by
 have HB:Below w.heap.size w ((w.alloc (Obj.cells #[.slice D n C] 46)).alloc (Obj.cells #[.float .f64 f.1,.float .f64 f.2] 24)):=by go_grown
 have A:Has2 ((w.alloc (Obj.cells #[.slice D n C] 46)).alloc (Obj.cells #[.float .f64 f.1,.float .f64 f.2] 24)) (w.heap.size+1) (.float .f64 f.1) (.float .f64 f.2):=⟨by go_simp,by go_simp,by go_simp,by go_simp,by go_size⟩
 have B:HasI ((w.alloc (Obj.cells #[.slice D n C] 46)).alloc (Obj.cells #[.float .f64 f.1,.float .f64 f.2] 24)) w.heap.size (.slice D n C):=⟨by go_simp,by go_size⟩
 go_enter Tryz.func203,Tryz.ntmps203
 go_wp2_with fail
 go_ret
 exact⟨⟨_,rfl,242,_,rfl,by unfold Lit;simp,fun j hj W hW=>cl_div f (P j) D n C X j hj (hp j hj) _ _ W (B.ex hW (by omega)) ((U.keep HB).ex hW off) (A.ex hW (by omega))⟩,HB⟩
theorem pr_zero (ex:Nat) (f:Nat×Nat) (D:Option Addr) (n C:Nat) (p:Nat×Nat) (c1:∀w,Calls Tryz.prog 55 #[.float .f64 0] w fun e w'=>e=.returned (.agg #[.float .f64 p.1,.float .f64 p.2])/\Below w.heap.size w w') (w:World) :
  Calls Tryz.prog 202 #[.agg #[.float .f64 f.1,.float .f64 f.2],.int .i64 0,.slice D n C] w fun e w'=>(∃fv,e=.returned fv/\Rule ex w' fv n (fun _=>p))/\Below w.heap.size w w':=by
 go_enter Tryz.func202,Tryz.ntmps202
 go_wp2_with fail
 go_ret
 exact⟨⟨_,rfl,194,_,rfl,by unfold Lit;simp,fun j hj W hW=>noSlope_w _ p c1 W⟩,by go_grown⟩
set_option maxHeartbeats 1000000 in
theorem pr_some (ex:Nat) (f:Nat×Nat) (N:Int) (hN:¬N=0) (hN0:-1000000<=N) (hN1:N<=1000000) (D:Option Addr) (n C:Nat) (X P:Nat->Nat×Nat) (a b c:Nat×Nat) (c1:∀w,Calls Tryz.prog 55 #[.float .f64 (floatOfInt .f64 N)] w fun e w'=>e=.returned (.agg #[.float .f64 a.1,.float .f64 a.2])/\Below w.heap.size w w') (c2:∀w,Calls Tryz.prog 189 #[.agg #[.float .f64 f.1,.float .f64 f.2],.int .i64 (N-1)] w fun e w'=>e=.returned (.agg #[.float .f64 b.1,.float .f64 b.2])/\Below w.heap.size w w') (c3:∀w,Calls Tryz.prog 54 #[.agg #[.float .f64 a.1,.float .f64 a.2],.agg #[.float .f64 b.1,.float .f64 b.2]] w fun e w'=>e=.returned (.agg #[.float .f64 c.1,.float .f64 c.2])/\Below w.heap.size w w') (hp:∀j,j<n->∀w,Calls Tryz.prog 54 #[.agg #[.float .f64 c.1,.float .f64 c.2],.agg #[.float .f64 (X j).1,.float .f64 (X j).2]] w fun e w'=>e=.returned (.agg #[.float .f64 (P j).1,.float .f64 (P j).2])/\Below w.heap.size w w') (w:World) (hx:ex<w.heap.size) (off:Off D n ex) (U:Ivs w D n X) :
  Calls Tryz.prog 202 #[.agg #[.float .f64 f.1,.float .f64 f.2],.int .i64 N,.slice D n C] w fun e w'=>(∃fv,e=.returned fv/\Rule ex w' fv n P)/\Below w.heap.size w w':=by
 have A:Has2 (w.alloc (.cells #[.float .f64 f.1,.float .f64 f.2] 24)) w.heap.size (.float .f64 f.1) (.float .f64 f.2):=has2_new _ _ _ _
 have HB:Below w.heap.size w (w.alloc (.cells #[.float .f64 f.1,.float .f64 f.2] 24)):=by go_grown
 have cm:=fun W (hW:Below w.heap.size w W)=>mult_w ex c D n C X P hp W (Nat.lt_of_lt_of_le hx hW.size) off (U.keep hW)
 go_enter Tryz.func202,Tryz.ntmps202
 go_upto_region 3 with fail
 generalize (w.alloc (.cells #[.float .f64 f.1,.float .f64 f.2] 24))=V1 at *
 have ka0:=fun n:Behind V1=>n.cell A.1 A.2.2.2.2
 have ka1:=fun n:Behind V1=>n.cell A.2.1 A.2.2.2.2
 refine tail_behind 9 (by kernel_rfl) (by kernel_rfl) ?_
 simp only [List.take_succ_cons,List.take_zero,List.drop_succ_cons,List.drop_zero]
 repeat (go_big_quiet_step (first
  | (go_at_call 55;with_reducible refine Behind.call (c1 _))
  | (go_at_call 189;with_reducible refine Behind.call (c2 _))
  | (go_at_call 54;with_reducible refine Behind.call (c3 _))))
 refine wpQuiet_nil ?_
 rintro _ ⟨m',rfl⟩
 obtain⟨W,hb1⟩:=m'
 dsimp only
 clear ka0 ka1 A
 replace HB:=later HB hb1
 go_wp2_with (go_at_call 204;refine (cm _ HB).mono ?_;rintro _ V5 ⟨⟨fv,rfl,hR⟩,hb5⟩;replace HB:=later HB hb5)
 go_ret
 exact⟨⟨_,rfl,hR.rule⟩,HB⟩
theorem ivCells_cells {w:World} {b o n:Nat} {X:Nat->Nat×Nat} (V:Ivs w (some ⟨b,o,none⟩) n X):∀(j:Nat) (u:Value),(ivCells ((List.range n).map X))[j]?=some u->w.cell? ((⟨b,o,none⟩:Addr).add j)=some u:=by
 intro j u hj
 have hlen:j<n*2:=by
  have:=(List.getElem?_eq_some_iff.1 hj).1
  rw [ivCells_len,List.length_map,List.length_range] at this
  exact this
 obtain⟨i,hi⟩:∃i,i=j/2:=⟨_,rfl⟩
 have hin:i<n:=by omega
 have hget:((List.range n).map X)[i]?=some (X i):=by simp [hin]
 obtain⟨e0,e1⟩:=ivCells_at _ i _ hget
 obtain⟨b',o',e,l,c0,c1, -⟩:=V i hin
 cases e
 have hadd:(⟨b,o,none⟩:Addr).add j=⟨b,o+j,none⟩:=by unfold Addr.add;split <;> simp_all
 rw [hadd]
 rcases Nat.mod_two_eq_zero_or_one j with c | c
 ·have ej:j=i*2:=by omega
  rw [ej] at hj ⊢
  rw [e0] at hj
  cases hj
  exact c0
 ·have ej:j=i*2+1:=by omega
  rw [ej] at hj ⊢
  rw [e1] at hj
  cases hj
  rw [<-Nat.add_assoc]
  exact c1
theorem ivCells_one (xs:List (Nat×Nat)):∀u∈ivCells xs,u.oneCell'=true:=by
 induction xs with
 | nil=>intro u hu;cases hu
 | cons p t ih =>
  intro u hu
  have e:ivCells (p :: t)=.float .f64 p.1 :: .float .f64 p.2 :: ivCells t:=rfl
  rw [e] at hu
  simp only [List.mem_cons] at hu
  rcases hu with rfl | rfl | h
  ·rfl
  ·rfl
  ·exact ih u h
set_option maxHeartbeats 1000000 in
theorem clone_own (b o n C:Nat) (X:Nat->Nat×Nat) (hn:n<=64) (w:World) (V:Ivs w (some ⟨b,o,none⟩) n X) :
   Calls Tryz.prog 127 #[.slice (some ⟨b,o,none⟩) n C] w fun e w'=>(∃v,e=.returned v/\OwnI w.heap.size w' v ((List.range n).map X))/\Below w.heap.size w w':=by
 have hx:=ivs_words V
 have hown:=ownI_empty w
 have hb0:Below w.heap.size w (w.alloc (.cells #[] 24)):=by go_grown
 have hc:=ivCells_cells (V.keep hb0)
 have h1:=ivCells_one ((List.range n).map X)
 have hl:(ivCells ((List.range n).map X)).length=n*2:=by rw [ivCells_len,List.length_map,List.length_range]
 obtain⟨i0,hi,hz0,hz1,hz2⟩:=info_parts Tryz.infoIval
 replace hc:Hid _:=hc
 replace h1:Hid _:=h1
 replace hx:Hid _:=hx
 replace hl:Hid _:=hl
 replace hown:Hid _:=hown
 replace hi:Hid _:=hi
 replace hz0:Hid _:=hz0
 replace hz1:Hid _:=hz1
 replace hz2:Hid _:=hz2
 have q46:∀(w:World) (a:Option Addr) (n c n' c':Nat),(binOp .eql 46 (.slice a n c) (.slice none n' c')).run Tryz.prog w=.ok (.bool a.isNone) w:=fun w a n c n' c'=>Go.Lib.run_eql_slice_nil w _ _ a n c n' c' Tryz.underlying46
 clear V
 go_enter Tryz.func127,Tryz.ntmps127
 go_wp2_with
  (at_builtin
   refine wpList_append_own _ (by rfl) _ _ 46 (by rfl) w.heap.size 24 i0 (.agg #[.float .f64 0,.float .f64 0]) 2 16 Tryz.underlying46 hi.out hz0.out hz1.out hz2.out rfl (by decide) _ 0 [] (by rfl) hown.out ⟨b,o,none⟩ n C (ivCells ((List.range n).map X)) (by rfl) hl.out hc.out h1.out (by unfold maxLen;omega) (by omega) (by go_size) ?_
   intro v' w' o1 o2 _)
 have own:OwnI w.heap.size w' v' ((List.range n).map X):=by
   unfold OwnI
   rw [List.length_map,List.length_range]
   rw [Nat.zero_add,List.nil_append] at o1
   exact o1
 have HB:Below w.heap.size w w':=(hb0.grown o2 (by go_size) (fun k hk=>(World.ownsRow.lt hown.out k hk).1))
 go_ret
 exact⟨⟨v',rfl,own⟩,HB⟩
theorem clone_wide (b o n C:Nat) (X:Nat->Nat×Nat) (hn:n<=64) (w:World) (V:Ivs w (some ⟨b,o,none⟩) n X) :
  Calls Tryz.prog 127 #[.slice (some ⟨b,o,none⟩) n C] w fun e w'=>(∃A C',e=.returned (.slice A n C')/\Ivs w' A n X/\(∀x,x<w.heap.size->Off A n x)/\n<=C')/\Below w.heap.size w w':=by
 have hx:=ivs_words V
 refine (clone_own b o n C X hn w V).mono ?_
 rintro _ w' ⟨⟨v',rfl,own⟩,HB⟩
 obtain⟨A,C',rfl,U⟩:=ownI_ivs own (fun p hp=>by
  obtain⟨i,hi,rfl⟩:=List.mem_map.1 hp
  exact hx i (List.mem_range.1 hi))
 rw [List.length_map,List.length_range] at U
 have hcap:n<=C':=by
  have h1:w'.ownsRow w.heap.size 24 2 (.slice A ((List.range n).map X).length C') ((List.range n).map X).length (ivCells ((List.range n).map X)):=own
  have e3:((List.range n).map X).length=n:=by rw [List.length_map,List.length_range]
  rw [e3] at h1
  rcases h1.2 with ⟨-,hz⟩ | ⟨g,cap,cur,hv, -, -,hc, -⟩
  ·omega
  ·simp only [Value.slice.injEq,true_and] at hv
   rw [hv.2];exact hc
 have hoff:∀x,x<w.heap.size->Off A n x:=fun x hx hn0 b' o' e=>by
  have:=World.ownsRow.lt (show w'.ownsRow w.heap.size 24 2 _ _ _ from own) b' (by rw [e];rfl)
  omega
 have U2:Ivs w' A n X:=fun i hi=>by
  have:=U i hi
  simpa [hi] using this
 have e2:((List.range n).map X).length=n:=by rw [List.length_map,List.length_range]
 rw [e2]
 exact⟨⟨A,C',rfl,U2,hoff,hcap⟩,HB⟩
end Go.Proofs.YtopfabemfbdccaaGreat
