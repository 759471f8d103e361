/- The range of a function that only rises, by its ends: rising with expAt, logAt, atanAt. Exp, Log and Atan over their functions at a float. -/
import Derived.Test.YtopfabemfbdccaaGreatZk31
namespace Go.Proofs.YtopfabemfbdccaaGreat
open Go.ChangeShapes Go.WideShapes Go.ChangeAt Go.RowKit
theorem as_agg (xs:Array Value) (w:World):(asAgg (.agg xs)).run Tryz.prog w=.ok xs w:=rfl
@[go_sem] theorem fld0 (a b:Nat) (w:World):(Instr.field 24 (.agg #[.float .f64 a,.float .f64 b]) 0).run Tryz.prog w=.ok (.float .f64 a) w:=by
 unfold Instr.field
 simp [go_sem,as_agg]
@[go_sem] theorem fld1 (a b:Nat) (w:World):(Instr.field 24 (.agg #[.float .f64 a,.float .f64 b]) 1).run Tryz.prog w=.ok (.float .f64 b) w:=by
 unfold Instr.field
 simp [go_sem,as_agg]
set_option maxHeartbeats 1000000 in
theorem ris_expAt_none (x c:Nat×Nat) (c1:∀w,Calls Tryz.prog 96 #[.agg #[.float .f64 x.1,.float .f64 x.2]] w fun e w'=>e=.returned (.agg #[.float .f64 c.1,.float .f64 c.2])/\Below w.heap.size w w') (o1:(FloatKind.f64.format.order c.1 (infI 1)==some .eq)=true) (o2:(FloatKind.f64.format.order c.2 (infI (-1))==some .eq)=true) (w:World) :
  Calls Tryz.prog 47 #[.agg #[.float .f64 x.1,.float .f64 x.2],.func (.func 48) #[] #[]] w fun e w'=>e=.returned (.agg #[.float .f64 c.1,.float .f64 c.2])/\Below w.heap.size w w':=by
 obtain⟨X,R,HB⟩:=enter1 w (.float .f64 x.1) (.float .f64 x.2) 24
 go_enter Tryz.func47,Tryz.ntmps47
 go_upto_region 1 with fail
 generalize (w.alloc (.cells #[.float .f64 x.1,.float .f64 x.2] 24)).alloc (.cells #[.float .f64 0,.float .f64 0] 24)=V1 at *
 obtain⟨x0,x1,x2,x3,x4⟩:=id X
 go_upto_region 2 with (go_at_call 96;refine (c1 _).mono ?_;rintro _ V2 ⟨rfl,hb1⟩;replace X:=X.keep hb1;replace R:=R.keep hb1;replace HB:=later HB hb1;clear hb1;clear x0 x1 x2 x3 x4;obtain⟨x0,x1,x2,x3,x4⟩:=id X)
 clear x0 x1 x2 x3 x4
 replace X:=X.put (.float .f64 c.1) (.float .f64 c.2)
 replace R:=R.far2 (c:=w.heap.size) (by omega) (.float .f64 c.1) (.float .f64 c.2)
 replace HB:Below w.heap.size w ((V2.setCell ⟨w.heap.size,0,none⟩ (.float .f64 c.1)).setCell ⟨w.heap.size,1,none⟩ (.float .f64 c.2)):=(HB.setCell (by simp) _).setCell (by simp) _
 generalize (V2.setCell ⟨w.heap.size,0,none⟩ (.float .f64 c.1)).setCell ⟨w.heap.size,1,none⟩ (.float .f64 c.2)=V3 at *
 have kX0:=fun n:Behind V3=>n.cell X.1 X.2.2.2.2;have kX1:=fun n:Behind V3=>n.cell X.2.1 X.2.2.2.2
 refine region_behind (by kernel_rfl) (by kernel_rfl) ?_
 repeat (go_big_quiet_step (first | (go_at_call 76;with_reducible refine Behind.call (empty_w _))))
 refine wpQuiet_nil ?_
 rintro _ ⟨m',rfl⟩
 obtain⟨V5,hb1⟩:=m'
 dsimp only
 clear kX0 kX1 c1
 replace X:=X.keep hb1;replace R:=R.keep hb1;replace HB:=later HB hb1;clear hb1
 obtain⟨x0,x1,x2,x3,x4⟩:=id X
 obtain⟨k0,k1,k2,k3,k4⟩:=id R
 go_wp2_with fail
 refine bodyPost_ret (v:=.agg #[.float .f64 c.1,.float .f64 c.2]) (by simp [results,Tryz.results47,go_sem, *]) rfl ⟨rfl, ?_⟩;repeat' (first | (with_reducible exact HB) | (with_reducible refine Below.setCell ?_ ?_ _) | go_size)
set_option maxHeartbeats 1000000 in
theorem ris_expAt_some (x c p q s:Nat×Nat) (c1:∀w,Calls Tryz.prog 96 #[.agg #[.float .f64 x.1,.float .f64 x.2]] w fun e w'=>e=.returned (.agg #[.float .f64 c.1,.float .f64 c.2])/\Below w.heap.size w w') (o1:(FloatKind.f64.format.order c.1 (infI 1)==some .eq)=false) (c2:∀w,Calls Tryz.prog 48 #[.float .f64 c.1] w fun e w'=>e=.returned (.agg #[.float .f64 p.1,.float .f64 p.2])/\Below w.heap.size w w') (c3:∀w,Calls Tryz.prog 48 #[.float .f64 c.2] w fun e w'=>e=.returned (.agg #[.float .f64 q.1,.float .f64 q.2])/\Below w.heap.size w w') (c4:∀w,Calls Tryz.prog 32 #[.float .f64 p.1,.float .f64 q.2] w fun e w'=>e=.returned (.agg #[.float .f64 s.1,.float .f64 s.2])/\Below w.heap.size w w') (w:World) :
  Calls Tryz.prog 47 #[.agg #[.float .f64 x.1,.float .f64 x.2],.func (.func 48) #[] #[]] w fun e w'=>e=.returned (.agg #[.float .f64 s.1,.float .f64 s.2])/\Below w.heap.size w w':=by
 obtain⟨X,R,HB⟩:=enter1 w (.float .f64 x.1) (.float .f64 x.2) 24
 go_enter Tryz.func47,Tryz.ntmps47
 go_upto_region 1 with fail
 generalize (w.alloc (.cells #[.float .f64 x.1,.float .f64 x.2] 24)).alloc (.cells #[.float .f64 0,.float .f64 0] 24)=V1 at *
 obtain⟨x0,x1,x2,x3,x4⟩:=id X
 go_upto_region 2 with (go_at_call 96;refine (c1 _).mono ?_;rintro _ V2 ⟨rfl,hb1⟩;replace X:=X.keep hb1;replace R:=R.keep hb1;replace HB:=later HB hb1;clear hb1;clear x0 x1 x2 x3 x4;obtain⟨x0,x1,x2,x3,x4⟩:=id X)
 clear x0 x1 x2 x3 x4
 replace X:=X.put (.float .f64 c.1) (.float .f64 c.2)
 replace R:=R.far2 (c:=w.heap.size) (by omega) (.float .f64 c.1) (.float .f64 c.2)
 replace HB:Below w.heap.size w ((V2.setCell ⟨w.heap.size,0,none⟩ (.float .f64 c.1)).setCell ⟨w.heap.size,1,none⟩ (.float .f64 c.2)):=(HB.setCell (by simp) _).setCell (by simp) _
 generalize (V2.setCell ⟨w.heap.size,0,none⟩ (.float .f64 c.1)).setCell ⟨w.heap.size,1,none⟩ (.float .f64 c.2)=V3 at *
 have kX0:=fun n:Behind V3=>n.cell X.1 X.2.2.2.2;have kX1:=fun n:Behind V3=>n.cell X.2.1 X.2.2.2.2
 refine region_behind (by kernel_rfl) (by kernel_rfl) ?_
 repeat (go_big_quiet_step (first | (go_at_call 76;with_reducible refine Behind.call (empty_w _))))
 refine wpQuiet_nil ?_
 rintro _ ⟨m',rfl⟩
 obtain⟨V5,hb1⟩:=m'
 dsimp only
 clear kX0 kX1 c1
 replace X:=X.keep hb1;replace R:=R.keep hb1;replace HB:=later HB hb1;clear hb1
 go_upto_region 4 with fail
 have kX0:=fun n:Behind V5=>n.cell X.1 X.2.2.2.2;have kX1:=fun n:Behind V5=>n.cell X.2.1 X.2.2.2.2
 refine tail_behind 11 (by kernel_rfl) (by kernel_rfl) ?_
 simp only [List.take_succ_cons,List.take_zero,List.drop_succ_cons,List.drop_zero]
 repeat (go_big_quiet_step (first | (go_at_call 48;with_reducible refine Behind.call (c2 _)) | (go_at_call 48;with_reducible refine Behind.call (c3 _)) | (go_at_call 32;with_reducible refine Behind.call (c4 _))))
 refine wpQuiet_nil ?_
 rintro _ ⟨m',rfl⟩
 obtain⟨W,hb1⟩:=m'
 dsimp only
 clear kX0 kX1
 replace R:=R.keep hb1;replace HB:=later HB hb1;clear hb1
 obtain⟨k0,k1,k2,k3,k4⟩:=id R
 go_wp2_with fail
 refine bodyPost_ret (v:=.agg #[.float .f64 s.1,.float .f64 s.2]) (by simp [results,Tryz.results47,go_sem, *]) rfl ⟨rfl, ?_⟩;repeat' (first | (with_reducible exact HB) | (with_reducible refine Below.setCell ?_ ?_ _) | go_size)
set_option maxHeartbeats 1000000 in
theorem ris_logAt_none (x c:Nat×Nat) (c1:∀w,Calls Tryz.prog 96 #[.agg #[.float .f64 x.1,.float .f64 x.2]] w fun e w'=>e=.returned (.agg #[.float .f64 c.1,.float .f64 c.2])/\Below w.heap.size w w') (o1:(FloatKind.f64.format.order c.1 (infI 1)==some .eq)=true) (o2:(FloatKind.f64.format.order c.2 (infI (-1))==some .eq)=true) (w:World) :
  Calls Tryz.prog 47 #[.agg #[.float .f64 x.1,.float .f64 x.2],.func (.func 240) #[] #[]] w fun e w'=>e=.returned (.agg #[.float .f64 c.1,.float .f64 c.2])/\Below w.heap.size w w':=by
 obtain⟨X,R,HB⟩:=enter1 w (.float .f64 x.1) (.float .f64 x.2) 24
 go_enter Tryz.func47,Tryz.ntmps47
 go_upto_region 1 with fail
 generalize (w.alloc (.cells #[.float .f64 x.1,.float .f64 x.2] 24)).alloc (.cells #[.float .f64 0,.float .f64 0] 24)=V1 at *
 obtain⟨x0,x1,x2,x3,x4⟩:=id X
 go_upto_region 2 with (go_at_call 96;refine (c1 _).mono ?_;rintro _ V2 ⟨rfl,hb1⟩;replace X:=X.keep hb1;replace R:=R.keep hb1;replace HB:=later HB hb1;clear hb1;clear x0 x1 x2 x3 x4;obtain⟨x0,x1,x2,x3,x4⟩:=id X)
 clear x0 x1 x2 x3 x4
 replace X:=X.put (.float .f64 c.1) (.float .f64 c.2)
 replace R:=R.far2 (c:=w.heap.size) (by omega) (.float .f64 c.1) (.float .f64 c.2)
 replace HB:Below w.heap.size w ((V2.setCell ⟨w.heap.size,0,none⟩ (.float .f64 c.1)).setCell ⟨w.heap.size,1,none⟩ (.float .f64 c.2)):=(HB.setCell (by simp) _).setCell (by simp) _
 generalize (V2.setCell ⟨w.heap.size,0,none⟩ (.float .f64 c.1)).setCell ⟨w.heap.size,1,none⟩ (.float .f64 c.2)=V3 at *
 have kX0:=fun n:Behind V3=>n.cell X.1 X.2.2.2.2;have kX1:=fun n:Behind V3=>n.cell X.2.1 X.2.2.2.2
 refine region_behind (by kernel_rfl) (by kernel_rfl) ?_
 repeat (go_big_quiet_step (first | (go_at_call 76;with_reducible refine Behind.call (empty_w _))))
 refine wpQuiet_nil ?_
 rintro _ ⟨m',rfl⟩
 obtain⟨V5,hb1⟩:=m'
 dsimp only
 clear kX0 kX1 c1
 replace X:=X.keep hb1;replace R:=R.keep hb1;replace HB:=later HB hb1;clear hb1
 obtain⟨x0,x1,x2,x3,x4⟩:=id X
 obtain⟨k0,k1,k2,k3,k4⟩:=id R
 go_wp2_with fail
 refine bodyPost_ret (v:=.agg #[.float .f64 c.1,.float .f64 c.2]) (by simp [results,Tryz.results47,go_sem, *]) rfl ⟨rfl, ?_⟩;repeat' (first | (with_reducible exact HB) | (with_reducible refine Below.setCell ?_ ?_ _) | go_size)
set_option maxHeartbeats 1000000 in
theorem ris_logAt_some (x c p q s:Nat×Nat) (c1:∀w,Calls Tryz.prog 96 #[.agg #[.float .f64 x.1,.float .f64 x.2]] w fun e w'=>e=.returned (.agg #[.float .f64 c.1,.float .f64 c.2])/\Below w.heap.size w w') (o1:(FloatKind.f64.format.order c.1 (infI 1)==some .eq)=false) (c2:∀w,Calls Tryz.prog 240 #[.float .f64 c.1] w fun e w'=>e=.returned (.agg #[.float .f64 p.1,.float .f64 p.2])/\Below w.heap.size w w') (c3:∀w,Calls Tryz.prog 240 #[.float .f64 c.2] w fun e w'=>e=.returned (.agg #[.float .f64 q.1,.float .f64 q.2])/\Below w.heap.size w w') (c4:∀w,Calls Tryz.prog 32 #[.float .f64 p.1,.float .f64 q.2] w fun e w'=>e=.returned (.agg #[.float .f64 s.1,.float .f64 s.2])/\Below w.heap.size w w') (w:World) :
  Calls Tryz.prog 47 #[.agg #[.float .f64 x.1,.float .f64 x.2],.func (.func 240) #[] #[]] w fun e w'=>e=.returned (.agg #[.float .f64 s.1,.float .f64 s.2])/\Below w.heap.size w w':=by
 obtain⟨X,R,HB⟩:=enter1 w (.float .f64 x.1) (.float .f64 x.2) 24
 go_enter Tryz.func47,Tryz.ntmps47
 go_upto_region 1 with fail
 generalize (w.alloc (.cells #[.float .f64 x.1,.float .f64 x.2] 24)).alloc (.cells #[.float .f64 0,.float .f64 0] 24)=V1 at *
 obtain⟨x0,x1,x2,x3,x4⟩:=id X
 go_upto_region 2 with (go_at_call 96;refine (c1 _).mono ?_;rintro _ V2 ⟨rfl,hb1⟩;replace X:=X.keep hb1;replace R:=R.keep hb1;replace HB:=later HB hb1;clear hb1;clear x0 x1 x2 x3 x4;obtain⟨x0,x1,x2,x3,x4⟩:=id X)
 clear x0 x1 x2 x3 x4
 replace X:=X.put (.float .f64 c.1) (.float .f64 c.2)
 replace R:=R.far2 (c:=w.heap.size) (by omega) (.float .f64 c.1) (.float .f64 c.2)
 replace HB:Below w.heap.size w ((V2.setCell ⟨w.heap.size,0,none⟩ (.float .f64 c.1)).setCell ⟨w.heap.size,1,none⟩ (.float .f64 c.2)):=(HB.setCell (by simp) _).setCell (by simp) _
 generalize (V2.setCell ⟨w.heap.size,0,none⟩ (.float .f64 c.1)).setCell ⟨w.heap.size,1,none⟩ (.float .f64 c.2)=V3 at *
 have kX0:=fun n:Behind V3=>n.cell X.1 X.2.2.2.2;have kX1:=fun n:Behind V3=>n.cell X.2.1 X.2.2.2.2
 refine region_behind (by kernel_rfl) (by kernel_rfl) ?_
 repeat (go_big_quiet_step (first | (go_at_call 76;with_reducible refine Behind.call (empty_w _))))
 refine wpQuiet_nil ?_
 rintro _ ⟨m',rfl⟩
 obtain⟨V5,hb1⟩:=m'
 dsimp only
 clear kX0 kX1 c1
 replace X:=X.keep hb1;replace R:=R.keep hb1;replace HB:=later HB hb1;clear hb1
 go_upto_region 4 with fail
 have kX0:=fun n:Behind V5=>n.cell X.1 X.2.2.2.2;have kX1:=fun n:Behind V5=>n.cell X.2.1 X.2.2.2.2
 refine tail_behind 11 (by kernel_rfl) (by kernel_rfl) ?_
 simp only [List.take_succ_cons,List.take_zero,List.drop_succ_cons,List.drop_zero]
 repeat (go_big_quiet_step (first | (go_at_call 240;with_reducible refine Behind.call (c2 _)) | (go_at_call 240;with_reducible refine Behind.call (c3 _)) | (go_at_call 32;with_reducible refine Behind.call (c4 _))))
 refine wpQuiet_nil ?_
 rintro _ ⟨m',rfl⟩
 obtain⟨W,hb1⟩:=m'
 dsimp only
 clear kX0 kX1
 replace R:=R.keep hb1;replace HB:=later HB hb1;clear hb1
 obtain⟨k0,k1,k2,k3,k4⟩:=id R
 go_wp2_with fail
 refine bodyPost_ret (v:=.agg #[.float .f64 s.1,.float .f64 s.2]) (by simp [results,Tryz.results47,go_sem, *]) rfl ⟨rfl, ?_⟩;repeat' (first | (with_reducible exact HB) | (with_reducible refine Below.setCell ?_ ?_ _) | go_size)
set_option maxHeartbeats 1000000 in
theorem ris_atanAt_none (x c:Nat×Nat) (c1:∀w,Calls Tryz.prog 96 #[.agg #[.float .f64 x.1,.float .f64 x.2]] w fun e w'=>e=.returned (.agg #[.float .f64 c.1,.float .f64 c.2])/\Below w.heap.size w w') (o1:(FloatKind.f64.format.order c.1 (infI 1)==some .eq)=true) (o2:(FloatKind.f64.format.order c.2 (infI (-1))==some .eq)=true) (w:World) :
  Calls Tryz.prog 47 #[.agg #[.float .f64 x.1,.float .f64 x.2],.func (.func 241) #[] #[]] w fun e w'=>e=.returned (.agg #[.float .f64 c.1,.float .f64 c.2])/\Below w.heap.size w w':=by
 obtain⟨X,R,HB⟩:=enter1 w (.float .f64 x.1) (.float .f64 x.2) 24
 go_enter Tryz.func47,Tryz.ntmps47
 go_upto_region 1 with fail
 generalize (w.alloc (.cells #[.float .f64 x.1,.float .f64 x.2] 24)).alloc (.cells #[.float .f64 0,.float .f64 0] 24)=V1 at *
 obtain⟨x0,x1,x2,x3,x4⟩:=id X
 go_upto_region 2 with (go_at_call 96;refine (c1 _).mono ?_;rintro _ V2 ⟨rfl,hb1⟩;replace X:=X.keep hb1;replace R:=R.keep hb1;replace HB:=later HB hb1;clear hb1;clear x0 x1 x2 x3 x4;obtain⟨x0,x1,x2,x3,x4⟩:=id X)
 clear x0 x1 x2 x3 x4
 replace X:=X.put (.float .f64 c.1) (.float .f64 c.2)
 replace R:=R.far2 (c:=w.heap.size) (by omega) (.float .f64 c.1) (.float .f64 c.2)
 replace HB:Below w.heap.size w ((V2.setCell ⟨w.heap.size,0,none⟩ (.float .f64 c.1)).setCell ⟨w.heap.size,1,none⟩ (.float .f64 c.2)):=(HB.setCell (by simp) _).setCell (by simp) _
 generalize (V2.setCell ⟨w.heap.size,0,none⟩ (.float .f64 c.1)).setCell ⟨w.heap.size,1,none⟩ (.float .f64 c.2)=V3 at *
 have kX0:=fun n:Behind V3=>n.cell X.1 X.2.2.2.2;have kX1:=fun n:Behind V3=>n.cell X.2.1 X.2.2.2.2
 refine region_behind (by kernel_rfl) (by kernel_rfl) ?_
 repeat (go_big_quiet_step (first | (go_at_call 76;with_reducible refine Behind.call (empty_w _))))
 refine wpQuiet_nil ?_
 rintro _ ⟨m',rfl⟩
 obtain⟨V5,hb1⟩:=m'
 dsimp only
 clear kX0 kX1 c1
 replace X:=X.keep hb1;replace R:=R.keep hb1;replace HB:=later HB hb1;clear hb1
 obtain⟨x0,x1,x2,x3,x4⟩:=id X
 obtain⟨k0,k1,k2,k3,k4⟩:=id R
 go_wp2_with fail
 refine bodyPost_ret (v:=.agg #[.float .f64 c.1,.float .f64 c.2]) (by simp [results,Tryz.results47,go_sem, *]) rfl ⟨rfl, ?_⟩;repeat' (first | (with_reducible exact HB) | (with_reducible refine Below.setCell ?_ ?_ _) | go_size)
set_option maxHeartbeats 1000000 in
theorem ris_atanAt_some (x c p q s:Nat×Nat) (c1:∀w,Calls Tryz.prog 96 #[.agg #[.float .f64 x.1,.float .f64 x.2]] w fun e w'=>e=.returned (.agg #[.float .f64 c.1,.float .f64 c.2])/\Below w.heap.size w w') (o1:(FloatKind.f64.format.order c.1 (infI 1)==some .eq)=false) (c2:∀w,Calls Tryz.prog 241 #[.float .f64 c.1] w fun e w'=>e=.returned (.agg #[.float .f64 p.1,.float .f64 p.2])/\Below w.heap.size w w') (c3:∀w,Calls Tryz.prog 241 #[.float .f64 c.2] w fun e w'=>e=.returned (.agg #[.float .f64 q.1,.float .f64 q.2])/\Below w.heap.size w w') (c4:∀w,Calls Tryz.prog 32 #[.float .f64 p.1,.float .f64 q.2] w fun e w'=>e=.returned (.agg #[.float .f64 s.1,.float .f64 s.2])/\Below w.heap.size w w') (w:World) :
  Calls Tryz.prog 47 #[.agg #[.float .f64 x.1,.float .f64 x.2],.func (.func 241) #[] #[]] w fun e w'=>e=.returned (.agg #[.float .f64 s.1,.float .f64 s.2])/\Below w.heap.size w w':=by
 obtain⟨X,R,HB⟩:=enter1 w (.float .f64 x.1) (.float .f64 x.2) 24
 go_enter Tryz.func47,Tryz.ntmps47
 go_upto_region 1 with fail
 generalize (w.alloc (.cells #[.float .f64 x.1,.float .f64 x.2] 24)).alloc (.cells #[.float .f64 0,.float .f64 0] 24)=V1 at *
 obtain⟨x0,x1,x2,x3,x4⟩:=id X
 go_upto_region 2 with (go_at_call 96;refine (c1 _).mono ?_;rintro _ V2 ⟨rfl,hb1⟩;replace X:=X.keep hb1;replace R:=R.keep hb1;replace HB:=later HB hb1;clear hb1;clear x0 x1 x2 x3 x4;obtain⟨x0,x1,x2,x3,x4⟩:=id X)
 clear x0 x1 x2 x3 x4
 replace X:=X.put (.float .f64 c.1) (.float .f64 c.2)
 replace R:=R.far2 (c:=w.heap.size) (by omega) (.float .f64 c.1) (.float .f64 c.2)
 replace HB:Below w.heap.size w ((V2.setCell ⟨w.heap.size,0,none⟩ (.float .f64 c.1)).setCell ⟨w.heap.size,1,none⟩ (.float .f64 c.2)):=(HB.setCell (by simp) _).setCell (by simp) _
 generalize (V2.setCell ⟨w.heap.size,0,none⟩ (.float .f64 c.1)).setCell ⟨w.heap.size,1,none⟩ (.float .f64 c.2)=V3 at *
 have kX0:=fun n:Behind V3=>n.cell X.1 X.2.2.2.2;have kX1:=fun n:Behind V3=>n.cell X.2.1 X.2.2.2.2
 refine region_behind (by kernel_rfl) (by kernel_rfl) ?_
 repeat (go_big_quiet_step (first | (go_at_call 76;with_reducible refine Behind.call (empty_w _))))
 refine wpQuiet_nil ?_
 rintro _ ⟨m',rfl⟩
 obtain⟨V5,hb1⟩:=m'
 dsimp only
 clear kX0 kX1 c1
 replace X:=X.keep hb1;replace R:=R.keep hb1;replace HB:=later HB hb1;clear hb1
 go_upto_region 4 with fail
 have kX0:=fun n:Behind V5=>n.cell X.1 X.2.2.2.2;have kX1:=fun n:Behind V5=>n.cell X.2.1 X.2.2.2.2
 refine tail_behind 11 (by kernel_rfl) (by kernel_rfl) ?_
 simp only [List.take_succ_cons,List.take_zero,List.drop_succ_cons,List.drop_zero]
 repeat (go_big_quiet_step (first | (go_at_call 241;with_reducible refine Behind.call (c2 _)) | (go_at_call 241;with_reducible refine Behind.call (c3 _)) | (go_at_call 32;with_reducible refine Behind.call (c4 _))))
 refine wpQuiet_nil ?_
 rintro _ ⟨m',rfl⟩
 obtain⟨W,hb1⟩:=m'
 dsimp only
 clear kX0 kX1
 replace R:=R.keep hb1;replace HB:=later HB hb1;clear hb1
 obtain⟨k0,k1,k2,k3,k4⟩:=id R
 go_wp2_with fail
 refine bodyPost_ret (v:=.agg #[.float .f64 s.1,.float .f64 s.2]) (by simp [results,Tryz.results47,go_sem, *]) rfl ⟨rfl, ?_⟩;repeat' (first | (with_reducible exact HB) | (with_reducible refine Below.setCell ?_ ?_ _) | go_size)
set_option maxHeartbeats 1000000 in
theorem exp_ris (x s:Nat×Nat) (c1:∀w,Calls Tryz.prog 47 #[.agg #[.float .f64 x.1,.float .f64 x.2],.func (.func 48) #[] #[]] w fun e w'=>e=.returned (.agg #[.float .f64 s.1,.float .f64 s.2])/\Below w.heap.size w w') (w:World):Calls Tryz.prog 13 #[.agg #[.float .f64 x.1,.float .f64 x.2]] w fun e w'=>e=.returned (.agg #[.float .f64 s.1,.float .f64 s.2])/\Below w.heap.size w w':=by
 obtain⟨X,R,HB⟩:=enter1 w (.float .f64 x.1) (.float .f64 x.2) 24
 go_enter Tryz.func13,Tryz.ntmps13
 go_upto_region 1 with fail
 generalize (w.alloc (.cells #[.float .f64 x.1,.float .f64 x.2] 24)).alloc (.cells #[.float .f64 0,.float .f64 0] 24)=V1 at *
 obtain⟨x0,x1,x2,x3,x4⟩:=id X
 go_wp2_with (go_at_call 47;refine (c1 _).mono ?_;rintro _ V3 ⟨rfl,hb1⟩;replace R:=R.keep hb1;replace HB:=later HB hb1;clear hb1;obtain⟨k0,k1,k2,k3,k4⟩:=id R)
 refine bodyPost_ret (v:=.agg #[.float .f64 s.1,.float .f64 s.2]) (by simp [results,Tryz.results13,go_sem, *]) rfl ⟨rfl, ?_⟩;repeat' (first | (with_reducible exact HB) | (with_reducible refine Below.setCell ?_ ?_ _) | go_size)
set_option maxHeartbeats 1000000 in
theorem atan_ris (x s:Nat×Nat) (c1:∀w,Calls Tryz.prog 47 #[.agg #[.float .f64 x.1,.float .f64 x.2],.func (.func 241) #[] #[]] w fun e w'=>e=.returned (.agg #[.float .f64 s.1,.float .f64 s.2])/\Below w.heap.size w w') (w:World):Calls Tryz.prog 192 #[.agg #[.float .f64 x.1,.float .f64 x.2]] w fun e w'=>e=.returned (.agg #[.float .f64 s.1,.float .f64 s.2])/\Below w.heap.size w w':=by
 obtain⟨X,R,HB⟩:=enter1 w (.float .f64 x.1) (.float .f64 x.2) 24
 go_enter Tryz.func192,Tryz.ntmps192
 go_upto_region 1 with fail
 generalize (w.alloc (.cells #[.float .f64 x.1,.float .f64 x.2] 24)).alloc (.cells #[.float .f64 0,.float .f64 0] 24)=V1 at *
 obtain⟨x0,x1,x2,x3,x4⟩:=id X
 go_wp2_with (go_at_call 47;refine (c1 _).mono ?_;rintro _ V3 ⟨rfl,hb1⟩;replace R:=R.keep hb1;replace HB:=later HB hb1;clear hb1;obtain⟨k0,k1,k2,k3,k4⟩:=id R)
 refine bodyPost_ret (v:=.agg #[.float .f64 s.1,.float .f64 s.2]) (by simp [results,Tryz.results192,go_sem, *]) rfl ⟨rfl, ?_⟩;repeat' (first | (with_reducible exact HB) | (with_reducible refine Below.setCell ?_ ?_ _) | go_size)
set_option maxHeartbeats 1000000 in
theorem log_ris (x z c s:Nat×Nat) (c1:∀w,Calls Tryz.prog 97 #[.int .i64 1] w fun e w'=>e=.returned (.float .f64 (infI 1))/\w=w') (c2:∀w,Calls Tryz.prog 32 #[.float .f64 0,.float .f64 (infI 1)] w fun e w'=>e=.returned (.agg #[.float .f64 z.1,.float .f64 z.2])/\Below w.heap.size w w') (c3:∀w,Calls Tryz.prog 113 #[.agg #[.float .f64 x.1,.float .f64 x.2],.agg #[.float .f64 z.1,.float .f64 z.2]] w fun e w'=>e=.returned (.agg #[.float .f64 c.1,.float .f64 c.2])/\Below w.heap.size w w') (o1:(FloatKind.f64.format.order c.2 0==some .lt || FloatKind.f64.format.order c.2 0==some .eq)=false)
  (c4:∀w,Calls Tryz.prog 47 #[.agg #[.float .f64 c.1,.float .f64 c.2],.func (.func 240) #[] #[]] w fun e w'=>e=.returned (.agg #[.float .f64 s.1,.float .f64 s.2])/\Below w.heap.size w w') (w:World):Calls Tryz.prog 191 #[.agg #[.float .f64 x.1,.float .f64 x.2]] w fun e w'=>e=.returned (.agg #[.float .f64 s.1,.float .f64 s.2])/\Below w.heap.size w w':=by
 obtain⟨X,R,HB⟩:=enter1 w (.float .f64 x.1) (.float .f64 x.2) 24
 go_enter Tryz.func191,Tryz.ntmps191
 go_upto_region 1 with fail
 generalize (w.alloc (.cells #[.float .f64 x.1,.float .f64 x.2] 24)).alloc (.cells #[.float .f64 0,.float .f64 0] 24)=V1 at *
 have kX0:=fun n:Behind V1=>n.cell X.1 X.2.2.2.2;have kX1:=fun n:Behind V1=>n.cell X.2.1 X.2.2.2.2
 refine tail_behind 4 (by kernel_rfl) (by kernel_rfl) ?_
 simp only [List.take_succ_cons,List.take_zero,List.drop_succ_cons,List.drop_zero]
 repeat (go_big_quiet_step (first | (go_at_call 97;with_reducible refine Behind.same (c1 _)) | (go_at_call 32;with_reducible refine Behind.call (c2 _)) | (go_at_call 113;with_reducible refine Behind.call (c3 _))))
 refine wpQuiet_nil ?_
 rintro _ ⟨m',rfl⟩
 obtain⟨W,hb1⟩:=m'
 dsimp only
 clear kX0 kX1
 replace X:=X.keep hb1;replace R:=R.keep hb1;replace HB:=later HB hb1;clear hb1
 obtain⟨x0,x1,x2,x3,x4⟩:=id X
 go_upto_region 2 with fail
 clear x0 x1 x2 x3 x4
 replace X:=X.put (.float .f64 c.1) (.float .f64 c.2)
 replace R:=R.far2 (c:=w.heap.size) (by omega) (.float .f64 c.1) (.float .f64 c.2)
 replace HB:Below w.heap.size w ((W.setCell ⟨w.heap.size,0,none⟩ (.float .f64 c.1)).setCell ⟨w.heap.size,1,none⟩ (.float .f64 c.2)):=(HB.setCell (by simp) _).setCell (by simp) _
 generalize (W.setCell ⟨w.heap.size,0,none⟩ (.float .f64 c.1)).setCell ⟨w.heap.size,1,none⟩ (.float .f64 c.2)=V3 at *
 obtain⟨x0,x1,x2,x3,x4⟩:=id X
 go_wp2_with (go_at_call 47;refine (c4 _).mono ?_;rintro _ V4 ⟨rfl,hb1⟩;replace R:=R.keep hb1;replace HB:=later HB hb1;clear hb1;obtain⟨k0,k1,k2,k3,k4⟩:=id R)
 refine bodyPost_ret (v:=.agg #[.float .f64 s.1,.float .f64 s.2]) (by simp [results,Tryz.results191,go_sem, *]) rfl ⟨rfl, ?_⟩;repeat' (first | (with_reducible exact HB) | (with_reducible refine Below.setCell ?_ ?_ _) | go_size)
set_option maxHeartbeats 1000000 in
theorem log_none (x z c:Nat×Nat) (c1:∀w,Calls Tryz.prog 97 #[.int .i64 1] w fun e w'=>e=.returned (.float .f64 (infI 1))/\w=w') (c2:∀w,Calls Tryz.prog 32 #[.float .f64 0,.float .f64 (infI 1)] w fun e w'=>e=.returned (.agg #[.float .f64 z.1,.float .f64 z.2])/\Below w.heap.size w w') (c3:∀w,Calls Tryz.prog 113 #[.agg #[.float .f64 x.1,.float .f64 x.2],.agg #[.float .f64 z.1,.float .f64 z.2]] w fun e w'=>e=.returned (.agg #[.float .f64 c.1,.float .f64 c.2])/\Below w.heap.size w w') (o1:(FloatKind.f64.format.order c.2 0==some .lt || FloatKind.f64.format.order c.2 0==some .eq)=true) (w:World):Calls Tryz.prog 191 #[.agg #[.float .f64 x.1,.float .f64 x.2]] w fun e w'=>e=.returned (.agg #[.float .f64 noneQ.1,.float .f64 noneQ.2])/\Below w.heap.size w w':=by
 obtain⟨X,R,HB⟩:=enter1 w (.float .f64 x.1) (.float .f64 x.2) 24
 go_enter Tryz.func191,Tryz.ntmps191
 go_upto_region 1 with fail
 generalize (w.alloc (.cells #[.float .f64 x.1,.float .f64 x.2] 24)).alloc (.cells #[.float .f64 0,.float .f64 0] 24)=V1 at *
 have kX0:=fun n:Behind V1=>n.cell X.1 X.2.2.2.2;have kX1:=fun n:Behind V1=>n.cell X.2.1 X.2.2.2.2
 refine tail_behind 4 (by kernel_rfl) (by kernel_rfl) ?_
 simp only [List.take_succ_cons,List.take_zero,List.drop_succ_cons,List.drop_zero]
 repeat (go_big_quiet_step (first | (go_at_call 97;with_reducible refine Behind.same (c1 _)) | (go_at_call 32;with_reducible refine Behind.call (c2 _)) | (go_at_call 113;with_reducible refine Behind.call (c3 _))))
 refine wpQuiet_nil ?_
 rintro _ ⟨m',rfl⟩
 obtain⟨W,hb1⟩:=m'
 dsimp only
 clear kX0 kX1
 replace X:=X.keep hb1;replace R:=R.keep hb1;replace HB:=later HB hb1;clear hb1
 obtain⟨x0,x1,x2,x3,x4⟩:=id X
 go_upto_region 2 with fail
 clear x0 x1 x2 x3 x4
 replace X:=X.put (.float .f64 c.1) (.float .f64 c.2)
 replace R:=R.far2 (c:=w.heap.size) (by omega) (.float .f64 c.1) (.float .f64 c.2)
 replace HB:Below w.heap.size w ((W.setCell ⟨w.heap.size,0,none⟩ (.float .f64 c.1)).setCell ⟨w.heap.size,1,none⟩ (.float .f64 c.2)):=(HB.setCell (by simp) _).setCell (by simp) _
 generalize (W.setCell ⟨w.heap.size,0,none⟩ (.float .f64 c.1)).setCell ⟨w.heap.size,1,none⟩ (.float .f64 c.2)=V3 at *
 obtain⟨x0,x1,x2,x3,x4⟩:=id X
 go_wp2_with (go_at_call 76;refine (empty_w _).mono ?_;rintro _ V4 ⟨rfl,hb1⟩;replace R:=R.keep hb1;replace HB:=later HB hb1;clear hb1;obtain⟨k0,k1,k2,k3,k4⟩:=id R)
 refine bodyPost_ret (v:=.agg #[.float .f64 (infI 1),.float .f64 (infI (-1))]) (by simp [results,Tryz.results191,go_sem, *]) rfl ⟨rfl, ?_⟩
 repeat' (first | (with_reducible exact HB) | (with_reducible refine Below.setCell ?_ ?_ _) | go_size)
end Go.Proofs.YtopfabemfbdccaaGreat
