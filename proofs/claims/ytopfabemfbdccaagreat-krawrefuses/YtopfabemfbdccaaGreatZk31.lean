/- The wave of an interval: Sin, Cos. Sin and Cos as functions of words. -/
import Derived.Test.YtopfabemfbdccaaGreatZk30
namespace Go.Proofs.YtopfabemfbdccaaGreat
open Go.ChangeShapes Go.WideShapes Go.ChangeAt Go.RowKit
set_option maxHeartbeats 1000000 in
theorem wave_empty (x c g:Nat×Nat) (a:Int) (c1:∀w,Calls Tryz.prog 96 #[.agg #[.float .f64 x.1,.float .f64 x.2]] w fun e w'=>e=.returned (.agg #[.float .f64 c.1,.float .f64 c.2])/\Below w.heap.size w w') (c2:∀w,Calls Tryz.prog 32 #[.float .f64 13830554455654793216,.float .f64 4607182418800017408] w fun e w'=>e=.returned (.agg #[.float .f64 g.1,.float .f64 g.2])/\Below w.heap.size w w') (o1:(FloatKind.f64.format.order c.1 (infI 1)==some .eq)=true) (o2:(FloatKind.f64.format.order c.2 (infI (-1))==some .eq)=true) (w:World):Calls Tryz.prog 53 #[.agg #[.float .f64 x.1,.float .f64 x.2],.int .i64 a] w fun e w'=>e=.returned (.agg #[.float .f64 c.1,.float .f64 c.2])/\Below w.heap.size w w':=by
 obtain⟨X,R,HB⟩:=enter1 w (.float .f64 x.1) (.float .f64 x.2) 24
 go_enter Tryz.func53,Tryz.ntmps53
 go_upto_region 1 with fail
 generalize (w.alloc (.cells #[.float .f64 x.1,.float .f64 x.2] 24)).alloc (.cells #[.float .f64 0,.float .f64 0] 24)=V1 at *
 obtain⟨x0,x1,x2,x3,x4⟩:=id X
 go_upto_region 2 with (go_at_call 96;refine (c1 _).mono ?_;rintro _ V2 ⟨rfl,hb1⟩;replace X:=X.keep hb1;replace R:=R.keep hb1;replace HB:=later HB hb1;clear hb1;clear x0 x1 x2 x3 x4;obtain⟨x0,x1,x2,x3,x4⟩:=id X)
 clear x0 x1 x2 x3 x4
 replace X:=X.put (.float .f64 c.1) (.float .f64 c.2)
 replace R:=R.far2 (c:=w.heap.size) (by omega) (.float .f64 c.1) (.float .f64 c.2)
 replace HB:Below w.heap.size w ((V2.setCell ⟨w.heap.size,0,none⟩ (.float .f64 c.1)).setCell ⟨w.heap.size,1,none⟩ (.float .f64 c.2)):=(HB.setCell (by simp) _).setCell (by simp) _
 generalize (V2.setCell ⟨w.heap.size,0,none⟩ (.float .f64 c.1)).setCell ⟨w.heap.size,1,none⟩ (.float .f64 c.2)=V3 at *
 go_upto_region 3 with (go_at_call 32;with_reducible refine (c2 _).mono ?_;rintro _ VV ⟨rfl,hb1⟩;replace X:=X.keep hb1;replace R:=R.keep hb1;replace HB:=later HB hb1;clear hb1)
 have D:Has2 (VV.alloc (.cells #[.float .f64 g.1,.float .f64 g.2] 24)) VV.heap.size (.float .f64 g.1) (.float .f64 g.2):=has2_new _ _ _ _
 have hb1:Below VV.heap.size VV (VV.alloc (.cells #[.float .f64 g.1,.float .f64 g.2] 24)):=by go_grown
 replace X:=X.keep hb1;replace R:=R.keep hb1;replace HB:=later HB hb1;clear hb1
 generalize VV.alloc (.cells #[.float .f64 g.1,.float .f64 g.2] 24)=V4 at *
 generalize VV.heap.size=d at *
 have kX0:=fun n:Behind V4=>n.cell X.1 X.2.2.2.2;have kX1:=fun n:Behind V4=>n.cell X.2.1 X.2.2.2.2
 refine region_behind (by kernel_rfl) (by kernel_rfl) ?_
 repeat (go_big_quiet_step (first | (go_at_call 76;with_reducible refine Behind.call (empty_w _))))
 refine wpQuiet_nil ?_
 rintro _ ⟨m',rfl⟩
 obtain⟨V5,hb1⟩:=m'
 dsimp only
 clear kX0 kX1 c1 c2
 replace X:=X.keep hb1;replace R:=R.keep hb1;replace D:=D.keep hb1;replace HB:=later HB hb1;clear hb1
 obtain⟨x0,x1,x2,x3,x4⟩:=id X
 obtain⟨k0,k1,k2,k3,k4⟩:=id R
 go_wp2_with fail
 refine bodyPost_ret (v:=.agg #[.float .f64 c.1,.float .f64 c.2]) (by simp [results,Tryz.results53,go_sem, *]) rfl ⟨rfl, ?_⟩;repeat' (first | (with_reducible exact HB) | (with_reducible refine Below.setCell ?_ ?_ _) | go_size)
set_option maxHeartbeats 1000000 in
theorem wave_far (x c g:Nat×Nat) (a:Int) (m:Nat) (c1:∀w,Calls Tryz.prog 96 #[.agg #[.float .f64 x.1,.float .f64 x.2]] w fun e w'=>e=.returned (.agg #[.float .f64 c.1,.float .f64 c.2])/\Below w.heap.size w w') (c2:∀w,Calls Tryz.prog 32 #[.float .f64 13830554455654793216,.float .f64 4607182418800017408] w fun e w'=>e=.returned (.agg #[.float .f64 g.1,.float .f64 g.2])/\Below w.heap.size w w') (o1:(FloatKind.f64.format.order c.1 (infI 1)==some .eq)=false) (c3:∀w,Calls Tryz.prog 109 #[.agg #[.float .f64 c.1,.float .f64 c.2]] w fun e w'=>e=.returned (.float .f64 m)/\Below w.heap.size w w') (o2:(FloatKind.f64.format.order m 4697254411347427328==some .gt)=true) (w:World):Calls Tryz.prog 53 #[.agg #[.float .f64 x.1,.float .f64 x.2],.int .i64 a] w fun e w'=>e=.returned (.agg #[.float .f64 g.1,.float .f64 g.2])/\Below w.heap.size w w':=by
 obtain⟨X,R,HB⟩:=enter1 w (.float .f64 x.1) (.float .f64 x.2) 24
 go_enter Tryz.func53,Tryz.ntmps53
 go_upto_region 1 with fail
 generalize (w.alloc (.cells #[.float .f64 x.1,.float .f64 x.2] 24)).alloc (.cells #[.float .f64 0,.float .f64 0] 24)=V1 at *
 obtain⟨x0,x1,x2,x3,x4⟩:=id X
 go_upto_region 2 with (go_at_call 96;refine (c1 _).mono ?_;rintro _ V2 ⟨rfl,hb1⟩;replace X:=X.keep hb1;replace R:=R.keep hb1;replace HB:=later HB hb1;clear hb1;clear x0 x1 x2 x3 x4;obtain⟨x0,x1,x2,x3,x4⟩:=id X)
 clear x0 x1 x2 x3 x4
 replace X:=X.put (.float .f64 c.1) (.float .f64 c.2)
 replace R:=R.far2 (c:=w.heap.size) (by omega) (.float .f64 c.1) (.float .f64 c.2)
 replace HB:Below w.heap.size w ((V2.setCell ⟨w.heap.size,0,none⟩ (.float .f64 c.1)).setCell ⟨w.heap.size,1,none⟩ (.float .f64 c.2)):=(HB.setCell (by simp) _).setCell (by simp) _
 generalize (V2.setCell ⟨w.heap.size,0,none⟩ (.float .f64 c.1)).setCell ⟨w.heap.size,1,none⟩ (.float .f64 c.2)=V3 at *
 go_upto_region 3 with (go_at_call 32;with_reducible refine (c2 _).mono ?_;rintro _ VV ⟨rfl,hb1⟩;replace X:=X.keep hb1;replace R:=R.keep hb1;replace HB:=later HB hb1;clear hb1)
 have D:Has2 (VV.alloc (.cells #[.float .f64 g.1,.float .f64 g.2] 24)) VV.heap.size (.float .f64 g.1) (.float .f64 g.2):=has2_new _ _ _ _
 have hb1:Below VV.heap.size VV (VV.alloc (.cells #[.float .f64 g.1,.float .f64 g.2] 24)):=by go_grown
 replace X:=X.keep hb1;replace R:=R.keep hb1;replace HB:=later HB hb1;clear hb1
 generalize VV.alloc (.cells #[.float .f64 g.1,.float .f64 g.2] 24)=V4 at *
 generalize VV.heap.size=d at *
 have kX0:=fun n:Behind V4=>n.cell X.1 X.2.2.2.2;have kX1:=fun n:Behind V4=>n.cell X.2.1 X.2.2.2.2
 refine region_behind (by kernel_rfl) (by kernel_rfl) ?_
 repeat (go_big_quiet_step (first | (go_at_call 76;with_reducible refine Behind.call (empty_w _))))
 refine wpQuiet_nil ?_
 rintro _ ⟨m',rfl⟩
 obtain⟨V5,hb1⟩:=m'
 dsimp only
 clear kX0 kX1 c1 c2
 replace X:=X.keep hb1;replace R:=R.keep hb1;replace D:=D.keep hb1;replace HB:=later HB hb1;clear hb1
 obtain⟨x0,x1,x2,x3,x4⟩:=id X
 go_wp2_with (go_at_call 109;refine (c3 _).mono ?_;rintro _ V6 ⟨rfl,hb1⟩;replace R:=R.keep hb1;replace D:=D.keep hb1;replace HB:=later HB hb1;clear hb1;obtain⟨k0,k1,k2,k3,k4⟩:=id R;obtain⟨e0,e1,e2,e3,e4⟩:=id D)
 refine bodyPost_ret (v:=.agg #[.float .f64 g.1,.float .f64 g.2]) (by simp [results,Tryz.results53,go_sem, *]) rfl ⟨rfl, ?_⟩;repeat' (first | (with_reducible exact HB) | (with_reducible refine Below.setCell ?_ ?_ _) | go_size)
set_option maxHeartbeats 4000000 in
theorem wave_near (x c g p q y o n y1 y2 r:Nat×Nat) (a:Int) (ha:0<=a/\a<=3) (m:Nat) (b1 b2:Bool) (c1:∀w,Calls Tryz.prog 96 #[.agg #[.float .f64 x.1,.float .f64 x.2]] w fun e w'=>e=.returned (.agg #[.float .f64 c.1,.float .f64 c.2])/\Below w.heap.size w w') (c2:∀w,Calls Tryz.prog 32 #[.float .f64 13830554455654793216,.float .f64 4607182418800017408] w fun e w'=>e=.returned (.agg #[.float .f64 g.1,.float .f64 g.2])/\Below w.heap.size w w') (o1:(FloatKind.f64.format.order c.1 (infI 1)==some .eq)=false) (c3:∀w,Calls Tryz.prog 109 #[.agg #[.float .f64 c.1,.float .f64 c.2]] w fun e w'=>e=.returned (.float .f64 m)/\Below w.heap.size w w') (o2:(FloatKind.f64.format.order m 4697254411347427328==some .gt)=false)
  (c4:∀w,Calls Tryz.prog 111 #[.float .f64 c.1,.int .i64 a] w fun e w'=>e=.returned (.agg #[.float .f64 p.1,.float .f64 p.2])/\Below w.heap.size w w') (c5:∀w,Calls Tryz.prog 111 #[.float .f64 c.2,.int .i64 a] w fun e w'=>e=.returned (.agg #[.float .f64 q.1,.float .f64 q.2])/\Below w.heap.size w w') (c6:∀w,Calls Tryz.prog 110 #[.agg #[.float .f64 p.1,.float .f64 p.2],.agg #[.float .f64 q.1,.float .f64 q.2]] w fun e w'=>e=.returned (.agg #[.float .f64 y.1,.float .f64 y.2])/\Below w.heap.size w w') (c7:∀w,Calls Tryz.prog 112 #[.agg #[.float .f64 c.1,.float .f64 c.2],.int .i64 (1-a)] w fun e w'=>e=.returned (.bool b1)/\Below w.heap.size w w') (c8:∀w,Calls Tryz.prog 112 #[.agg #[.float .f64 c.1,.float .f64 c.2],.int .i64 (3-a)] w fun e w'=>e=.returned (.bool b2)/\Below w.heap.size w w') (c9:∀w,Calls Tryz.prog 55 #[.float .f64 4607182418800017408] w fun e w'=>e=.returned (.agg #[.float .f64 o.1,.float .f64 o.2])/\Below w.heap.size w w') (c10:∀w,Calls Tryz.prog 55 #[.float .f64 13830554455654793216] w fun e w'=>e=.returned (.agg #[.float .f64 n.1,.float .f64 n.2])/\Below w.heap.size w w')
  (e1:b1=false->y1=y) (e2:b2=false->y2=y1) (c11:b1=true->∀w,Calls Tryz.prog 110 #[.agg #[.float .f64 y.1,.float .f64 y.2],.agg #[.float .f64 o.1,.float .f64 o.2]] w fun e w'=>e=.returned (.agg #[.float .f64 y1.1,.float .f64 y1.2])/\Below w.heap.size w w') (c12:b2=true->∀w,Calls Tryz.prog 110 #[.agg #[.float .f64 y1.1,.float .f64 y1.2],.agg #[.float .f64 n.1,.float .f64 n.2]] w fun e w'=>e=.returned (.agg #[.float .f64 y2.1,.float .f64 y2.2])/\Below w.heap.size w w') (c13:∀w,Calls Tryz.prog 113 #[.agg #[.float .f64 y2.1,.float .f64 y2.2],.agg #[.float .f64 g.1,.float .f64 g.2]] w fun e w'=>e=.returned (.agg #[.float .f64 r.1,.float .f64 r.2])/\Below w.heap.size w w') (w:World):Calls Tryz.prog 53 #[.agg #[.float .f64 x.1,.float .f64 x.2],.int .i64 a] w fun e w'=>e=.returned (.agg #[.float .f64 r.1,.float .f64 r.2])/\Below w.heap.size w w':=by
 obtain⟨X,R,HB⟩:=enter1 w (.float .f64 x.1) (.float .f64 x.2) 24
 go_enter Tryz.func53,Tryz.ntmps53
 go_upto_region 1 with fail
 generalize (w.alloc (.cells #[.float .f64 x.1,.float .f64 x.2] 24)).alloc (.cells #[.float .f64 0,.float .f64 0] 24)=V1 at *
 obtain⟨x0,x1,x2,x3,x4⟩:=id X
 go_upto_region 2 with (go_at_call 96;refine (c1 _).mono ?_;rintro _ V2 ⟨rfl,hb1⟩;replace X:=X.keep hb1;replace R:=R.keep hb1;replace HB:=later HB hb1;clear hb1;clear x0 x1 x2 x3 x4;obtain⟨x0,x1,x2,x3,x4⟩:=id X)
 clear x0 x1 x2 x3 x4
 replace X:=X.put (.float .f64 c.1) (.float .f64 c.2)
 replace R:=R.far2 (c:=w.heap.size) (by omega) (.float .f64 c.1) (.float .f64 c.2)
 replace HB:Below w.heap.size w ((V2.setCell ⟨w.heap.size,0,none⟩ (.float .f64 c.1)).setCell ⟨w.heap.size,1,none⟩ (.float .f64 c.2)):=(HB.setCell (by simp) _).setCell (by simp) _
 generalize (V2.setCell ⟨w.heap.size,0,none⟩ (.float .f64 c.1)).setCell ⟨w.heap.size,1,none⟩ (.float .f64 c.2)=V3 at *
 go_upto_region 3 with (go_at_call 32;with_reducible refine (c2 _).mono ?_;rintro _ VV ⟨rfl,hb1⟩;replace X:=X.keep hb1;replace R:=R.keep hb1;replace HB:=later HB hb1;clear hb1)
 have D:Has2 (VV.alloc (.cells #[.float .f64 g.1,.float .f64 g.2] 24)) VV.heap.size (.float .f64 g.1) (.float .f64 g.2):=has2_new _ _ _ _
 have hb1:Below VV.heap.size VV (VV.alloc (.cells #[.float .f64 g.1,.float .f64 g.2] 24)):=by go_grown
 replace X:=X.keep hb1;replace R:=R.keep hb1;replace HB:=later HB hb1;clear hb1
 generalize VV.alloc (.cells #[.float .f64 g.1,.float .f64 g.2] 24)=V4 at *
 generalize VV.heap.size=d at *
 have kX0:=fun n:Behind V4=>n.cell X.1 X.2.2.2.2;have kX1:=fun n:Behind V4=>n.cell X.2.1 X.2.2.2.2
 refine region_behind (by kernel_rfl) (by kernel_rfl) ?_
 repeat (go_big_quiet_step (first | (go_at_call 76;with_reducible refine Behind.call (empty_w _))))
 refine wpQuiet_nil ?_
 rintro _ ⟨m',rfl⟩
 obtain⟨V5,hb1⟩:=m'
 dsimp only
 clear kX0 kX1 c1 c2
 replace X:=X.keep hb1;replace R:=R.keep hb1;replace D:=D.keep hb1;replace HB:=later HB hb1;clear hb1
 obtain⟨x0,x1,x2,x3,x4⟩:=id X
 go_upto_region 7 with (go_at_call 109;refine (c3 _).mono ?_;rintro _ V6 ⟨rfl,hb1⟩;replace X:=X.keep hb1;replace R:=R.keep hb1;replace D:=D.keep hb1;replace HB:=later HB hb1;clear hb1;clear x0 x1 x2 x3 x4)
 have lim:=And.intro X.lt (And.intro R.lt D.lt)
 have limH:=HB.size
 apply tail_alloc1 9 (by kernel_rfl) (by kernel_rfl) rfl
 ·intro W1 hW
  replace X:=X.keep hW
  have kX0:=fun n:Behind W1=>n.cell X.1 X.2.2.2.2;have kX1:=fun n:Behind W1=>n.cell X.2.1 X.2.2.2.2
  simp only [List.take_succ_cons,List.take_zero]
  repeat (go_big_quiet_step (first | (go_at_call 111;with_reducible refine Behind.call (c4 _)) | (go_at_call 111;with_reducible refine Behind.call (c5 _)) | (go_at_call 110;with_reducible refine Behind.call (c6 _))))
  exact wpQuiet_nil rfl
 intro b W hbb B hb1
 have sX:=X.lt
 have sR:=R.lt
 have sD:=D.lt
 have sHB:=HB.size
 replace X:=X.keep hb1;replace R:=R.keep hb1;replace D:=D.keep hb1;replace HB:=later HB hb1;clear hb1
 have E:=B.put (.float .f64 y.1) (.float .f64 y.2)
 replace X:=X.far2 (c:=b) (by omega) (.float .f64 y.1) (.float .f64 y.2)
 replace R:=R.far2 (c:=b) (by omega) (.float .f64 y.1) (.float .f64 y.2)
 replace D:=D.far2 (c:=b) (by omega) (.float .f64 y.1) (.float .f64 y.2)
 replace HB:Below w.heap.size w ((W.setCell ⟨b,0,none⟩ (.float .f64 y.1)).setCell ⟨b,1,none⟩ (.float .f64 y.2)):=(HB.setCell (by simp;omega) _).setCell (by simp;omega) _
 obtain⟨bb0,bb1,bb2,bb3,bb4⟩:=id B
 simp only [List.drop_succ_cons,List.drop_zero,Act.put,List.setIfInBounds_toArray,List.set_cons_succ,List.set_cons_zero]
 go_upto_region 8 with fail
 clear bb0 bb1 bb2 bb3 bb4 B sX sR sD sHB
 generalize ((W.setCell ⟨b,0,none⟩ (.float .f64 y.1)).setCell ⟨b,1,none⟩ (.float .f64 y.2))=V7 at *
 generalize b=bE at *
 clear c3 c4 c5 c6 o1 o2
 obtain⟨x0,x1,x2,x3,x4⟩:=id X
 cases b1 with
 | false =>
  obtain rfl:=e1 rfl
  clear e1 c11
  go_upto_region 10 with (go_at_call 112;refine (c7 _).mono ?_;rintro _ VV ⟨rfl,hb1⟩;replace X:=X.keep hb1;replace R:=R.keep hb1;replace D:=D.keep hb1;replace E:=E.keep hb1;replace HB:=later HB hb1;clear hb1)
  clear c7 x0 x1 x2 x3 x4
  obtain⟨x0,x1,x2,x3,x4⟩:=id X
  cases b2 with
  | false =>
   obtain rfl:=e2 rfl
   clear e2 c12
   go_upto_region 12 with (go_at_call 112;refine (c8 _).mono ?_;rintro _ VV ⟨rfl,hb1⟩;replace X:=X.keep hb1;replace R:=R.keep hb1;replace D:=D.keep hb1;replace E:=E.keep hb1;replace HB:=later HB hb1;clear hb1)
   obtain⟨e0,e1,e2,e3,e4⟩:=id E
   obtain⟨d0,d1,d2,d3,d4⟩:=id D
   go_wp2_with (go_at_call 113;refine (c13 _).mono ?_;rintro _ V9 ⟨rfl,hb1⟩;replace R:=R.keep hb1;replace HB:=later HB hb1;clear hb1;obtain⟨k0,k1,k2,k3,k4⟩:=id R)
   refine bodyPost_ret (v:=.agg #[.float .f64 r.1,.float .f64 r.2]) (by simp [results,Tryz.results53,go_sem, *]) rfl ⟨rfl, ?_⟩;repeat' (first | (with_reducible exact HB) | (with_reducible refine Below.setCell ?_ ?_ _) | go_size)
  | true =>
   replace c12:=c12 rfl
   clear e2
   go_upto_region 11 with (go_at_call 112;refine (c8 _).mono ?_;rintro _ VV ⟨rfl,hb1⟩;replace X:=X.keep hb1;replace R:=R.keep hb1;replace D:=D.keep hb1;replace E:=E.keep hb1;replace HB:=later HB hb1;clear hb1)
   generalize VV=V8 at *
   have kE0:=fun n:Behind V8=>n.cell E.1 E.2.2.2.2;have kE1:=fun n:Behind V8=>n.cell E.2.1 E.2.2.2.2
   refine tail_behind 3 (by kernel_rfl) (by kernel_rfl) ?_
   simp only [List.take_succ_cons,List.take_zero,List.drop_succ_cons,List.drop_zero]
   repeat (go_big_quiet_step (first | (go_at_call 55;with_reducible refine Behind.call (c10 _)) | (go_at_call 110;with_reducible refine Behind.call (c12 _))))
   refine wpQuiet_nil ?_
   rintro _ ⟨m',rfl⟩
   obtain⟨W3,hb1⟩:=m'
   dsimp only
   clear kE0 kE1
   replace X:=X.keep hb1;replace R:=R.keep hb1;replace D:=D.keep hb1;replace E:=E.keep hb1;replace HB:=later HB hb1;clear hb1
   obtain⟨e0,e1,e2,e3,e4⟩:=id E
   go_upto_region 12 with fail
   clear e0 e1 e2 e3 e4
   replace E:=E.put (.float .f64 y2.1) (.float .f64 y2.2)
   replace X:=X.far2 (c:=bE) (by omega) (.float .f64 y2.1) (.float .f64 y2.2)
   replace R:=R.far2 (c:=bE) (by omega) (.float .f64 y2.1) (.float .f64 y2.2)
   replace D:=D.far2 (c:=bE) (by omega) (.float .f64 y2.1) (.float .f64 y2.2)
   replace HB:Below w.heap.size w ((W3.setCell ⟨bE,0,none⟩ (.float .f64 y2.1)).setCell ⟨bE,1,none⟩ (.float .f64 y2.2)):=(HB.setCell (by simp;omega) _).setCell (by simp;omega) _
   generalize ((W3.setCell ⟨bE,0,none⟩ (.float .f64 y2.1)).setCell ⟨bE,1,none⟩ (.float .f64 y2.2))=V7 at *
   obtain⟨e0,e1,e2,e3,e4⟩:=id E
   obtain⟨d0,d1,d2,d3,d4⟩:=id D
   go_wp2_with (go_at_call 113;refine (c13 _).mono ?_;rintro _ V9 ⟨rfl,hb1⟩;replace R:=R.keep hb1;replace HB:=later HB hb1;clear hb1;obtain⟨k0,k1,k2,k3,k4⟩:=id R)
   refine bodyPost_ret (v:=.agg #[.float .f64 r.1,.float .f64 r.2]) (by simp [results,Tryz.results53,go_sem, *]) rfl ⟨rfl, ?_⟩;repeat' (first | (with_reducible exact HB) | (with_reducible refine Below.setCell ?_ ?_ _) | go_size)
 | true =>
  replace c11:=c11 rfl
  clear e1
  go_upto_region 9 with (go_at_call 112;refine (c7 _).mono ?_;rintro _ VV ⟨rfl,hb1⟩;replace X:=X.keep hb1;replace R:=R.keep hb1;replace D:=D.keep hb1;replace E:=E.keep hb1;replace HB:=later HB hb1;clear hb1)
  clear c7 x0 x1 x2 x3 x4
  generalize VV=V8 at *
  have kE0:=fun n:Behind V8=>n.cell E.1 E.2.2.2.2;have kE1:=fun n:Behind V8=>n.cell E.2.1 E.2.2.2.2
  refine tail_behind 3 (by kernel_rfl) (by kernel_rfl) ?_
  simp only [List.take_succ_cons,List.take_zero,List.drop_succ_cons,List.drop_zero]
  repeat (go_big_quiet_step (first | (go_at_call 55;with_reducible refine Behind.call (c9 _)) | (go_at_call 110;with_reducible refine Behind.call (c11 _))))
  refine wpQuiet_nil ?_
  rintro _ ⟨m',rfl⟩
  obtain⟨W3,hb1⟩:=m'
  dsimp only
  clear kE0 kE1
  replace X:=X.keep hb1;replace R:=R.keep hb1;replace D:=D.keep hb1;replace E:=E.keep hb1;replace HB:=later HB hb1;clear hb1
  obtain⟨e0,e1,e2,e3,e4⟩:=id E
  go_upto_region 10 with fail
  clear e0 e1 e2 e3 e4
  replace E:=E.put (.float .f64 y1.1) (.float .f64 y1.2)
  replace X:=X.far2 (c:=bE) (by omega) (.float .f64 y1.1) (.float .f64 y1.2)
  replace R:=R.far2 (c:=bE) (by omega) (.float .f64 y1.1) (.float .f64 y1.2)
  replace D:=D.far2 (c:=bE) (by omega) (.float .f64 y1.1) (.float .f64 y1.2)
  replace HB:Below w.heap.size w ((W3.setCell ⟨bE,0,none⟩ (.float .f64 y1.1)).setCell ⟨bE,1,none⟩ (.float .f64 y1.2)):=(HB.setCell (by simp;omega) _).setCell (by simp;omega) _
  generalize ((W3.setCell ⟨bE,0,none⟩ (.float .f64 y1.1)).setCell ⟨bE,1,none⟩ (.float .f64 y1.2))=V7 at *
  obtain⟨x0,x1,x2,x3,x4⟩:=id X
  cases b2 with
  | false =>
   obtain rfl:=e2 rfl
   clear e2 c12
   go_upto_region 12 with (go_at_call 112;refine (c8 _).mono ?_;rintro _ VV ⟨rfl,hb1⟩;replace X:=X.keep hb1;replace R:=R.keep hb1;replace D:=D.keep hb1;replace E:=E.keep hb1;replace HB:=later HB hb1;clear hb1)
   obtain⟨e0,e1,e2,e3,e4⟩:=id E
   obtain⟨d0,d1,d2,d3,d4⟩:=id D
   go_wp2_with (go_at_call 113;refine (c13 _).mono ?_;rintro _ V9 ⟨rfl,hb1⟩;replace R:=R.keep hb1;replace HB:=later HB hb1;clear hb1;obtain⟨k0,k1,k2,k3,k4⟩:=id R)
   refine bodyPost_ret (v:=.agg #[.float .f64 r.1,.float .f64 r.2]) (by simp [results,Tryz.results53,go_sem, *]) rfl ⟨rfl, ?_⟩;repeat' (first | (with_reducible exact HB) | (with_reducible refine Below.setCell ?_ ?_ _) | go_size)
  | true =>
   replace c12:=c12 rfl
   clear e2
   go_upto_region 11 with (go_at_call 112;refine (c8 _).mono ?_;rintro _ VV ⟨rfl,hb1⟩;replace X:=X.keep hb1;replace R:=R.keep hb1;replace D:=D.keep hb1;replace E:=E.keep hb1;replace HB:=later HB hb1;clear hb1)
   generalize VV=V8 at *
   have kE0:=fun n:Behind V8=>n.cell E.1 E.2.2.2.2;have kE1:=fun n:Behind V8=>n.cell E.2.1 E.2.2.2.2
   refine tail_behind 3 (by kernel_rfl) (by kernel_rfl) ?_
   simp only [List.take_succ_cons,List.take_zero,List.drop_succ_cons,List.drop_zero]
   repeat (go_big_quiet_step (first | (go_at_call 55;with_reducible refine Behind.call (c10 _)) | (go_at_call 110;with_reducible refine Behind.call (c12 _))))
   refine wpQuiet_nil ?_
   rintro _ ⟨m',rfl⟩
   obtain⟨W3,hb1⟩:=m'
   dsimp only
   clear kE0 kE1
   replace X:=X.keep hb1;replace R:=R.keep hb1;replace D:=D.keep hb1;replace E:=E.keep hb1;replace HB:=later HB hb1;clear hb1
   obtain⟨e0,e1,e2,e3,e4⟩:=id E
   go_upto_region 12 with fail
   clear e0 e1 e2 e3 e4
   replace E:=E.put (.float .f64 y2.1) (.float .f64 y2.2)
   replace X:=X.far2 (c:=bE) (by omega) (.float .f64 y2.1) (.float .f64 y2.2)
   replace R:=R.far2 (c:=bE) (by omega) (.float .f64 y2.1) (.float .f64 y2.2)
   replace D:=D.far2 (c:=bE) (by omega) (.float .f64 y2.1) (.float .f64 y2.2)
   replace HB:Below w.heap.size w ((W3.setCell ⟨bE,0,none⟩ (.float .f64 y2.1)).setCell ⟨bE,1,none⟩ (.float .f64 y2.2)):=(HB.setCell (by simp;omega) _).setCell (by simp;omega) _
   generalize ((W3.setCell ⟨bE,0,none⟩ (.float .f64 y2.1)).setCell ⟨bE,1,none⟩ (.float .f64 y2.2))=V7 at *
   obtain⟨e0,e1,e2,e3,e4⟩:=id E
   obtain⟨d0,d1,d2,d3,d4⟩:=id D
   go_wp2_with (go_at_call 113;refine (c13 _).mono ?_;rintro _ V9 ⟨rfl,hb1⟩;replace R:=R.keep hb1;replace HB:=later HB hb1;clear hb1;obtain⟨k0,k1,k2,k3,k4⟩:=id R)
   refine bodyPost_ret (v:=.agg #[.float .f64 r.1,.float .f64 r.2]) (by simp [results,Tryz.results53,go_sem, *]) rfl ⟨rfl, ?_⟩;repeat' (first | (with_reducible exact HB) | (with_reducible refine Below.setCell ?_ ?_ _) | go_size)
instance (p:Nat×Nat):Decidable (W2 p):=inferInstanceAs (Decidable (_/\_))
def allQ:Nat×Nat:=(infI (-1),infI 1)
def noneQ:Nat×Nat:=(infI 1,infI (-1))
def cntQ (x:Nat×Nat):Nat×Nat:=meetQ x allQ
theorem allQ_W2:W2 allQ:=by decide
theorem noneQ_W2:W2 noneQ:=by decide
theorem cntQ_W2 {x:Nat×Nat} (hx:W2 x):W2 (cntQ x):=meetQ_W2 hx allQ_W2
theorem cCnt {x:Nat×Nat} (hx:W2 x) (w:World):Calls Tryz.prog 96 #[.agg #[.float .f64 x.1,.float .f64 x.2]] w fun e w'=>e=.returned (.agg #[.float .f64 (cntQ x).1,.float .f64 (cntQ x).2])/\Below w.heap.size w w':=ecounted_w x.1 x.2 hx.1 hx.2 w
theorem meet_ways (x y:Nat×Nat):meetQ x y=noneQ\/Some2 (meetQ x y).1 (meetQ x y).2:=by
 unfold meetQ meetP makeP noneQ
 split
 ·split
  ·rename_i h
   exact Or.inr (hs_iff.1 h)
  ·exact Or.inl rfl
 ·exact Or.inl rfl
theorem noneQ_eq:(FloatKind.f64.format.order noneQ.1 (infI 1)==some .eq)=true/\(FloatKind.f64.format.order noneQ.2 (infI (-1))==some .eq)=true:=by decide +kernel
theorem some_ne {lo hi:Nat} (hl:lo<18446744073709551616) (S:Some2 lo hi):(FloatKind.f64.format.order lo (infI 1)==some .eq)=false:=by
 rw [o_eq hl (infI_lt 1)]
 unfold eqB
 have:=S.lt
 rw [key_up,S.nl,decide_eq_false (by omega)]
 simp
theorem div_some {xl xh yl yh:Nat} (a1:xl<18446744073709551616) (a2:xh<18446744073709551616) (b1:yl<18446744073709551616) (b2:yh<18446744073709551616) (S:Some2 xl xh) (T:Some2 yl yh) (k0:0<=key yl) (k1:0<key yh):Some2 (divP xl xh yl yh).1 (divP xl xh yl yh).2:=by
 have p1:divP xl xh yl yh=if key yl=0/\key yh=0 then (infI 1,infI (-1)) else if key xl=0/\key xh=0 then (0,0) else if 0<=key yl then shrinkP xl xh yl yh else if key yh<=0 then shrinkP (mirrorP (xl,xh)).1 (mirrorP (xl,xh)).2 (mirrorP (yl,yh)).1 (mirrorP (yl,yh)).2 else (infI (-1),infI 1):=by
  unfold divP;rw [hs_iff.2 S,hs_iff.2 T];rfl
 rw [p1,if_neg (by omega)]
 split
 ·exact zero_some
 ·exact (shrink_some a1 a2 b1 b2 S T k0 k1).1
def ceilQ (n:Nat×Nat):Int:=-flI (negB n.1)
def mayB (c:Nat×Nat) (p:Int):Bool:=decide (ceilQ (quartQ c)+(p-ceilQ (quartQ c))%4<=flI (quartQ c).2)
theorem half_pos:0<=key halfPiQ.1/\0<key halfPiQ.2:=by decide +kernel
theorem quart_words {c:Nat×Nat} (hc:W2 c) (X:In c.1 c.2 13920626448202203136 4697254411347427328):(quartQ c).1%9223372036854775808<4845873199050653696/\(quartQ c).2%9223372036854775808<4845873199050653696:=by
 have S:Some2 (quartQ c).1 (quartQ c).2:=div_some hc.1 hc.2 halfPiQ_W2.1 halfPiQ_W2.2 X.S half_some half_pos.1 half_pos.2
 have g:=quart_gr X
 have w:=quartQ_W2 hc
 have l:=far_lo
 have h:=far_hi
 rcases g with ⟨e, -⟩ | ⟨-, -,a,b⟩
 ·exfalso
  have:=hs_iff.2 S
  rw [e,empty_some] at this
  cases this
 ·have le:=S.le
  generalize quartQ (13920626448202203136,4697254411347427328)=q at *
  generalize quartQ c=n at *
  have m1:=word_of_key (B:=4832362400168542207) w.1 (by omega) (by omega)
  have m2:=word_of_key (B:=4832362400168542207) w.2 (by omega) (by omega)
  omega
theorem cMay {c:Nat×Nat} (hc:W2 c) (X:In c.1 c.2 13920626448202203136 4697254411347427328) (p:Int) (hp:-100<=p/\p<=100) (w:World):Calls Tryz.prog 112 #[.agg #[.float .f64 c.1,.float .f64 c.2],.int .i64 p] w fun e w'=>e=.returned (.bool (mayB c p))/\Below w.heap.size w w':=by
 obtain⟨w1,w2⟩:=quart_words hc X
 have wd:=quartQ_W2 hc
 have hn:negB (quartQ c).1%9223372036854775808<4845873199050653696:=by unfold negB;split <;> omega
 have f:=flI_in _ hn
 exact mayPass_core c (quartQ c) p (ceilQ (quartQ c)) (flI (quartQ c).2) ((p-ceilQ (quartQ c))%4) hp (by unfold ceilQ;omega) (by omega) (i64_and3 _) _ rfl (fun w=>cQuart hc w) (fun w=>ceil_w _ wd.1 w1 w) (fun w=>floor_w _ wd.2 w2 w) w
def waveQ (x:Nat×Nat) (a:Int):Nat×Nat :=
 if (cntQ x)=noneQ then noneQ else
 if ltB 4697254411347427328 (magQ (cntQ x)) then mkQ 13830554455654793216 4607182418800017408 else
 meetQ (if mayB (cntQ x) (3-a) then hullQ (if mayB (cntQ x) (1-a) then hullQ (hullQ (waveAtQ (cntQ x).1 a) (waveAtQ (cntQ x).2 a)) (ptQ 4607182418800017408) else hullQ (waveAtQ (cntQ x).1 a) (waveAtQ (cntQ x).2 a)) (ptQ 13830554455654793216)
  else (if mayB (cntQ x) (1-a) then hullQ (hullQ (waveAtQ (cntQ x).1 a) (waveAtQ (cntQ x).2 a)) (ptQ 4607182418800017408) else hullQ (waveAtQ (cntQ x).1 a) (waveAtQ (cntQ x).2 a))) (mkQ 13830554455654793216 4607182418800017408)
theorem mag_far {c:Nat×Nat} (hc:W2 c) (S:Some2 c.1 c.2) (h:ltB 4697254411347427328 (magQ c)=false):In c.1 c.2 13920626448202203136 4697254411347427328:=by
 have k1:=key_abs hc.1
 have k2:=key_abs hc.2
 have m:=(maxW_key (c.1%9223372036854775808) (c.2%9223372036854775808))
 have e:magQ c=maxW (c.1%9223372036854775808) (c.2%9223372036854775808):=by unfold magQ magP;rw [if_pos (hs_iff.2 S)]
 rw [e] at h
 have n:nanB (maxW (c.1%9223372036854775808) (c.2%9223372036854775808))=false:=by
  rcases m.2 with q | q <;> rw [q,nan_abs]
  ·exact S.nl
  ·exact S.nh
 unfold ltB at h
 rw [n,m.1,k1,k2,show nanB 4697254411347427328=false by decide,far_key.2] at h
 have le:=S.le
 simp only [Bool.not_false,Bool.true_and,decide_eq_false_iff_not] at h
 refine⟨S,far_some, ?_, ?_,hc.1,hc.2,by omega,by omega⟩
 ·rw [far_key.1]
  generalize key c.1=u at *
  generalize key c.2=v at *
  omega
 ·rw [far_key.2]
  generalize key c.1=u at *
  generalize key c.2=v at *
  omega
theorem magQ_W {c:Nat×Nat}:magQ c<18446744073709551616:=by
 unfold magQ magP
 split
 ·rcases (maxW_key (c.1%9223372036854775808) (c.2%9223372036854775808)).2 with q | q <;> rw [q] <;> omega
 ·omega
theorem cWave {x:Nat×Nat} (hx:W2 x) (a:Int) (ha:a=0\/a=1) (w:World):Calls Tryz.prog 53 #[.agg #[.float .f64 x.1,.float .f64 x.2],.int .i64 a] w fun e w'=>e=.returned (.agg #[.float .f64 (waveQ x a).1,.float .f64 (waveQ x a).2])/\Below w.heap.size w w':=by
 have hc:=cntQ_W2 hx
 have c1:=fun w=>cCnt hx w
 have c2:=fun w=>cMake (a:=13830554455654793216) (b:=4607182418800017408) (by omega) (by omega) w
 have hg:W2 (mkQ 13830554455654793216 4607182418800017408):=mkQ_W2 (by omega) (by omega)
 unfold waveQ
 generalize mkQ 13830554455654793216 4607182418800017408=g at *
 have ways:=meet_ways x allQ
 have ec:meetQ x allQ=cntQ x:=rfl
 rw [ec] at ways
 generalize cntQ x=c at *
 rcases ways with rfl | S
 ·rw [if_pos rfl]
  exact wave_empty x noneQ g a c1 c2 noneQ_eq.1 noneQ_eq.2 w
 ·rw [if_neg (by rintro rfl;have:=hs_iff.2 S;rw [show hsB noneQ.1 noneQ.2=false from empty_some] at this;cases this)]
  have o1:=some_ne hc.1 S
  have c3:=fun w=>cMag hc w
  have o2:=o_gt (magQ_W (c:=c)) (show 4697254411347427328<18446744073709551616 by omega)
  cases hm:ltB 4697254411347427328 (magQ c) with
  | true =>
   rw [if_pos rfl]
   rw [hm] at o2
   exact wave_far x c g a _ c1 c2 o1 c3 o2 w
  | false =>
   rw [if_neg (by simp)]
   rw [hm] at o2
   have X:=mag_far hc S hm
   have kl:=X.kl
   have kh:=X.kh
   rw [far_key.1] at kl
   rw [far_key.2] at kh
   have le:=S.le
   have p:=fun w=>cWaveAt hc.1 S.nl (by omega) (by omega) a (by omega) w
   have q:=fun w=>cWaveAt hc.2 S.nh (by omega) (by omega) a (by omega) w
   have hp:=waveAtQ_W2 hc.1 a
   have hq:=waveAtQ_W2 hc.2 a
   have m1:=fun w=>cMay hc X (1-a) (by omega) w
   have m2:=fun w=>cMay hc X (3-a) (by omega) w
   have ho:=ptQ_W2 (a:=4607182418800017408) (by omega)
   have hn:=ptQ_W2 (a:=13830554455654793216) (by omega)
   have co:=fun w=>cPoint (a:=4607182418800017408) (by omega) w
   have cn:=fun w=>cPoint (a:=13830554455654793216) (by omega) w
   generalize ptQ 4607182418800017408=o at *
   generalize ptQ 13830554455654793216=n at *
   generalize mayB c (1-a)=b1 at *
   generalize mayB c (3-a)=b2 at *
   generalize waveAtQ c.1 a=u at *
   generalize waveAtQ c.2 a=v at *
   have hy:=hullQ_W2 hp hq
   have cy:=fun w=>cHull hp hq w
   generalize hullQ u v=y at *
   have hy1:=hullQ_W2 hy ho
   have cy1:=fun w=>cHull hy ho w
   generalize hullQ y o=y1 at *
   cases b1 <;> cases b2
   ·simp only [Bool.false_eq_true,if_false]
    exact wave_near x c g u v y o n y y _ a (by omega) _ false false c1 c2 o1 c3 o2 p q cy m1 m2 co cn (fun _=>rfl) (fun _=>rfl) (fun h=>by cases h) (fun h=>by cases h) (fun w=>cMeet hy hg w) w
   ·simp only [Bool.false_eq_true,if_false,if_true]
    exact wave_near x c g u v y o n y (hullQ y n) _ a (by omega) _ false true c1 c2 o1 c3 o2 p q cy m1 m2 co cn (fun _=>rfl) (fun h=>by cases h) (fun h=>by cases h) (fun _ w=>cHull hy hn w) (fun w=>cMeet (hullQ_W2 hy hn) hg w) w
   ·simp only [Bool.false_eq_true,if_false,if_true]
    exact wave_near x c g u v y o n y1 y1 _ a (by omega) _ true false c1 c2 o1 c3 o2 p q cy m1 m2 co cn (fun h=>by cases h) (fun _=>rfl) (fun _ w=>cy1 w) (fun h=>by cases h) (fun w=>cMeet hy1 hg w) w
   ·simp only [if_true]
    exact wave_near x c g u v y o n y1 (hullQ y1 n) _ a (by omega) _ true true c1 c2 o1 c3 o2 p q cy m1 m2 co cn (fun h=>by cases h) (fun h=>by cases h) (fun _ w=>cy1 w) (fun _ w=>cHull hy1 hn w) (fun w=>cMeet (hullQ_W2 hy1 hn) hg w) w
set_option maxHeartbeats 1000000 in
theorem sin_core (x s:Nat×Nat) (c1:∀w,Calls Tryz.prog 53 #[.agg #[.float .f64 x.1,.float .f64 x.2],.int .i64 0] w fun e w'=>e=.returned (.agg #[.float .f64 s.1,.float .f64 s.2])/\Below w.heap.size w w') (w:World):Calls Tryz.prog 18 #[.agg #[.float .f64 x.1,.float .f64 x.2]] w fun e w'=>e=.returned (.agg #[.float .f64 s.1,.float .f64 s.2])/\Below w.heap.size w w':=by
 obtain⟨X,R,HB⟩:=enter1 w (.float .f64 x.1) (.float .f64 x.2) 24
 go_enter Tryz.func18,Tryz.ntmps18
 go_upto_region 1 with fail
 generalize (w.alloc (.cells #[.float .f64 x.1,.float .f64 x.2] 24)).alloc (.cells #[.float .f64 0,.float .f64 0] 24)=V1 at *
 obtain⟨x0,x1,x2,x3,x4⟩:=id X
 go_wp2_with (go_at_call 53;refine (c1 _).mono ?_;rintro _ V3 ⟨rfl,hb1⟩;replace R:=R.keep hb1;replace HB:=later HB hb1;clear hb1;obtain⟨k0,k1,k2,k3,k4⟩:=id R)
 refine bodyPost_ret (v:=.agg #[.float .f64 s.1,.float .f64 s.2]) (by simp [results,Tryz.results18,go_sem, *]) rfl ⟨rfl, ?_⟩;repeat' (first | (with_reducible exact HB) | (with_reducible refine Below.setCell ?_ ?_ _) | go_size)
set_option maxHeartbeats 1000000 in
theorem cos_core (x s:Nat×Nat) (c1:∀w,Calls Tryz.prog 53 #[.agg #[.float .f64 x.1,.float .f64 x.2],.int .i64 1] w fun e w'=>e=.returned (.agg #[.float .f64 s.1,.float .f64 s.2])/\Below w.heap.size w w') (w:World):Calls Tryz.prog 19 #[.agg #[.float .f64 x.1,.float .f64 x.2]] w fun e w'=>e=.returned (.agg #[.float .f64 s.1,.float .f64 s.2])/\Below w.heap.size w w':=by
 obtain⟨X,R,HB⟩:=enter1 w (.float .f64 x.1) (.float .f64 x.2) 24
 go_enter Tryz.func19,Tryz.ntmps19
 go_upto_region 1 with fail
 generalize (w.alloc (.cells #[.float .f64 x.1,.float .f64 x.2] 24)).alloc (.cells #[.float .f64 0,.float .f64 0] 24)=V1 at *
 obtain⟨x0,x1,x2,x3,x4⟩:=id X
 go_wp2_with (go_at_call 53;refine (c1 _).mono ?_;rintro _ V3 ⟨rfl,hb1⟩;replace R:=R.keep hb1;replace HB:=later HB hb1;clear hb1;obtain⟨k0,k1,k2,k3,k4⟩:=id R)
 refine bodyPost_ret (v:=.agg #[.float .f64 s.1,.float .f64 s.2]) (by simp [results,Tryz.results19,go_sem, *]) rfl ⟨rfl, ?_⟩;repeat' (first | (with_reducible exact HB) | (with_reducible refine Below.setCell ?_ ?_ _) | go_size)
def sinQ (x:Nat×Nat):Nat×Nat:=waveQ x 0
def cosQ (x:Nat×Nat):Nat×Nat:=waveQ x 1
theorem cSin {x:Nat×Nat} (hx:W2 x) (w:World):Calls Tryz.prog 18 #[.agg #[.float .f64 x.1,.float .f64 x.2]] w fun e w'=>e=.returned (.agg #[.float .f64 (sinQ x).1,.float .f64 (sinQ x).2])/\Below w.heap.size w w':=sin_core x _ (fun w=>cWave hx 0 (Or.inl rfl) w) w
theorem cCos {x:Nat×Nat} (hx:W2 x) (w:World):Calls Tryz.prog 19 #[.agg #[.float .f64 x.1,.float .f64 x.2]] w fun e w'=>e=.returned (.agg #[.float .f64 (cosQ x).1,.float .f64 (cosQ x).2])/\Below w.heap.size w w':=cos_core x _ (fun w=>cWave hx 1 (Or.inr rfl) w) w
theorem waveQ_W2 {x:Nat×Nat} (hx:W2 x) (a:Int):W2 (waveQ x a):=by
 have hc:=cntQ_W2 hx
 have hg:W2 (mkQ 13830554455654793216 4607182418800017408):=mkQ_W2 (by omega) (by omega)
 have ho:=ptQ_W2 (a:=4607182418800017408) (by omega)
 have hn:=ptQ_W2 (a:=13830554455654793216) (by omega)
 have hy:=hullQ_W2 (waveAtQ_W2 hc.1 a) (waveAtQ_W2 hc.2 a)
 unfold waveQ
 generalize mkQ 13830554455654793216 4607182418800017408=g at *
 generalize ptQ 4607182418800017408=o at *
 generalize ptQ 13830554455654793216=n at *
 generalize hullQ (waveAtQ (cntQ x).1 a) (waveAtQ (cntQ x).2 a)=y at *
 split
 ·exact noneQ_W2
 ·split
  ·exact hg
  ·refine meetQ_W2 ?_ hg
   have h1:W2 (if mayB (cntQ x) (1-a)=true then hullQ y o else y):=by
    split
    ·exact hullQ_W2 hy ho
    ·exact hy
   split
   ·exact hullQ_W2 h1 hn
   ·exact h1
end Go.Proofs.YtopfabemfbdccaaGreat
