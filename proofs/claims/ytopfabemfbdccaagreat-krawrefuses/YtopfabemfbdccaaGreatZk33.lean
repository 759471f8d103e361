/- Exp as a function of words. Atan as a function of words. Log as a function of words. -/
import Derived.Test.YtopfabemfbdccaaGreatZk32
namespace Go.Proofs.YtopfabemfbdccaaGreat
open Go.ChangeShapes Go.WideShapes Go.ChangeAt Go.RowKit
set_option maxHeartbeats 1000000 in
theorem exp_hi (v:Nat) (s:Nat×Nat) (o1:(FloatKind.f64.format.order v 4649456441864749056==some .gt)=true) (c1:∀w,Calls Tryz.prog 97 #[.int .i64 1] w fun e w'=>e=.returned (.float .f64 (infI 1))/\w=w') (c2:∀w,Calls Tryz.prog 32 #[.float .f64 9218868437227405311,.float .f64 (infI 1)] w fun e w'=>e=.returned (.agg #[.float .f64 s.1,.float .f64 s.2])/\Below w.heap.size w w') (w:World):Calls Tryz.prog 48 #[.float .f64 v] w fun e w'=>e=.returned (.agg #[.float .f64 s.1,.float .f64 s.2])/\Below w.heap.size w w':=by
 have R:Has2 (w.alloc (.cells #[.float .f64 0,.float .f64 0] 24)) w.heap.size (.float .f64 0) (.float .f64 0):=has2_new _ _ _ _
 have HB:Below w.heap.size w (w.alloc (.cells #[.float .f64 0,.float .f64 0] 24)):=by go_grown
 go_enter Tryz.func48,Tryz.ntmps48
 go_wp2_with (first
  | (go_at_call 97;refine (c1 _).mono ?_;rintro _ V1 ⟨rfl,rfl⟩)
  | (go_at_call 32;refine (c2 _).mono ?_;rintro _ V1 ⟨rfl,hb1⟩;replace R:=R.keep hb1;replace HB:=later HB hb1;clear hb1;obtain⟨k0,k1,k2,k3,k4⟩:=id R))
 refine bodyPost_ret (v:=.agg #[.float .f64 s.1,.float .f64 s.2]) (by simp [results,Tryz.results48,go_sem, *]) rfl ⟨rfl, ?_⟩;repeat' (first | (with_reducible exact HB) | (with_reducible refine Below.setCell ?_ ?_ _) | go_size)
set_option maxHeartbeats 1000000 in
theorem exp_lo (v:Nat) (s:Nat×Nat) (o1:(FloatKind.f64.format.order v 4649456441864749056==some .gt)=false) (o2:(FloatKind.f64.format.order v 13873145138068324352==some .lt)=true) (c2:∀w,Calls Tryz.prog 32 #[.float .f64 0,.float .f64 1] w fun e w'=>e=.returned (.agg #[.float .f64 s.1,.float .f64 s.2])/\Below w.heap.size w w') (w:World):Calls Tryz.prog 48 #[.float .f64 v] w fun e w'=>e=.returned (.agg #[.float .f64 s.1,.float .f64 s.2])/\Below w.heap.size w w':=by
 have R:Has2 (w.alloc (.cells #[.float .f64 0,.float .f64 0] 24)) w.heap.size (.float .f64 0) (.float .f64 0):=has2_new _ _ _ _
 have HB:Below w.heap.size w (w.alloc (.cells #[.float .f64 0,.float .f64 0] 24)):=by go_grown
 go_enter Tryz.func48,Tryz.ntmps48
 go_wp2_with (go_at_call 32;refine (c2 _).mono ?_;rintro _ V1 ⟨rfl,hb1⟩;replace R:=R.keep hb1;replace HB:=later HB hb1;clear hb1;obtain⟨k0,k1,k2,k3,k4⟩:=id R)
 refine bodyPost_ret (v:=.agg #[.float .f64 s.1,.float .f64 s.2]) (by simp [results,Tryz.results48,go_sem, *]) rfl ⟨rfl, ?_⟩;repeat' (first | (with_reducible exact HB) | (with_reducible refine Below.setCell ?_ ?_ _) | go_size)
set_option maxHeartbeats 1000000 in
theorem exp_mid (v f:Nat) (k:Int) (p l q m r u s:Nat×Nat) (o1:(FloatKind.f64.format.order v 4649456441864749056==some .gt)=false) (o2:(FloatKind.f64.format.order v 13873145138068324352==some .lt)=false)
  (c1:∀w,Calls Tryz.prog 55 #[.float .f64 v] w fun e w'=>e=.returned (.agg #[.float .f64 p.1,.float .f64 p.2])/\Below w.heap.size w w') (c2:∀w,Calls Tryz.prog 7 #[] w fun e w'=>e=.returned (.agg #[.float .f64 l.1,.float .f64 l.2])/\Below w.heap.size w w') (c3:∀w,Calls Tryz.prog 50 #[.agg #[.float .f64 p.1,.float .f64 p.2],.agg #[.float .f64 l.1,.float .f64 l.2]] w fun e w'=>e=.returned (.agg #[.float .f64 q.1,.float .f64 q.2])/\Below w.heap.size w w') (c4:∀w,Calls Tryz.prog 98 #[.agg #[.float .f64 q.1,.float .f64 q.2]] w fun e w'=>e=.returned (.int .i64 k)/\Below w.heap.size w w') (c5:∀w,Calls Tryz.prog 101 #[] w fun e w'=>e=.returned (.agg #[.float .f64 f,.float .f64 m.1,.float .f64 m.2])/\Below w.heap.size w w') (c6:∀w,Calls Tryz.prog 102 #[.agg #[.float .f64 f,.float .f64 m.1,.float .f64 m.2],.float .f64 v,.int .i64 k] w fun e w'=>e=.returned (.agg #[.float .f64 r.1,.float .f64 r.2])/\Below w.heap.size w w')
  (c7:∀w,Calls Tryz.prog 100 #[.agg #[.float .f64 r.1,.float .f64 r.2]] w fun e w'=>e=.returned (.agg #[.float .f64 u.1,.float .f64 u.2])/\Below w.heap.size w w') (c8:∀w,Calls Tryz.prog 99 #[.agg #[.float .f64 u.1,.float .f64 u.2],.int .i64 k] w fun e w'=>e=.returned (.agg #[.float .f64 s.1,.float .f64 s.2])/\Below w.heap.size w w') (w:World):Calls Tryz.prog 48 #[.float .f64 v] w fun e w'=>e=.returned (.agg #[.float .f64 s.1,.float .f64 s.2])/\Below w.heap.size w w':=by
 have R:Has2 (w.alloc (.cells #[.float .f64 0,.float .f64 0] 24)) w.heap.size (.float .f64 0) (.float .f64 0):=has2_new _ _ _ _
 have HB:Below w.heap.size w (w.alloc (.cells #[.float .f64 0,.float .f64 0] 24)):=by go_grown
 go_enter Tryz.func48,Tryz.ntmps48
 go_wp2_with (first | (go_at_call 55;with_reducible refine (c1 _).mono ?_;rintro _ VV ⟨rfl,hb1⟩;replace R:=R.keep hb1;replace HB:=later HB hb1;clear hb1) | (go_at_call 7;with_reducible refine (c2 _).mono ?_;rintro _ VV ⟨rfl,hb1⟩;replace R:=R.keep hb1;replace HB:=later HB hb1;clear hb1) | (go_at_call 50;with_reducible refine (c3 _).mono ?_;rintro _ VV ⟨rfl,hb1⟩;replace R:=R.keep hb1;replace HB:=later HB hb1;clear hb1) | (go_at_call 98;with_reducible refine (c4 _).mono ?_;rintro _ VV ⟨rfl,hb1⟩;replace R:=R.keep hb1;replace HB:=later HB hb1;clear hb1) | (go_at_call 101;with_reducible refine (c5 _).mono ?_;rintro _ VV ⟨rfl,hb1⟩;replace R:=R.keep hb1;replace HB:=later HB hb1;clear hb1) | (go_at_call 102;with_reducible refine (c6 _).mono ?_;rintro _ VV ⟨rfl,hb1⟩;replace R:=R.keep hb1;replace HB:=later HB hb1;clear hb1) | (go_at_call 100;with_reducible refine (c7 _).mono ?_;rintro _ VV ⟨rfl,hb1⟩;replace R:=R.keep hb1;replace HB:=later HB hb1;clear hb1) | (go_at_call 99;refine (c8 _).mono ?_;rintro _ V1 ⟨rfl,hb1⟩;replace R:=R.keep hb1;replace HB:=later HB hb1;clear hb1;obtain⟨k0,k1,k2,k3,k4⟩:=id R))
 refine bodyPost_ret (v:=.agg #[.float .f64 s.1,.float .f64 s.2]) (by simp [results,Tryz.results48,go_sem, *]) rfl ⟨rfl, ?_⟩;repeat' (first | (with_reducible exact HB) | (with_reducible refine Below.setCell ?_ ?_ _) | go_size)
def ln2Q:Nat×Nat:=mkQ 4604418534313441775 4604418534313441776
def restLnQ:Nat×Nat:=mkQ 4419120210296499430 4419120210296499431
theorem ln2Q_W2:W2 ln2Q:=mkQ_W2 (by omega) (by omega)
theorem restLnQ_W2:W2 restLnQ:=mkQ_W2 (by omega) (by omega)
theorem cFineLn (w:World):Calls Tryz.prog 101 #[] w fun e w'=>e=.returned (.agg #[.float .f64 4604418534313439232,.float .f64 restLnQ.1,.float .f64 restLnQ.2])/\Below w.heap.size w w':=fineLn2_core _ (fun w=>cMake (by omega) (by omega) w) w
def expKI (v:Nat):Int:=nearI (divQ (ptQ v) ln2Q)
def expAtQ (v:Nat):Nat×Nat :=
 if ltB 4649456441864749056 v then mkQ 9218868437227405311 (infI 1) else if ltB v 13873145138068324352 then mkQ 0 1
 else scaledQ (pwsE (takenQ 4604418534313439232 restLnQ v (expKI v))) (expKI v)
theorem exp_some:Some2 13873145138068324352 4649456441864749056:=hs_iff.1 (by decide +kernel)
theorem ln2_some:Some2 ln2Q.1 ln2Q.2:=hs_iff.1 (by decide +kernel)
theorem exp_lo_key:-4832362400168542207<=key (divQ (13873145138068324352,4649456441864749056) ln2Q).1:=by decide +kernel
theorem exp_hi_key:key (divQ (13873145138068324352,4649456441864749056) ln2Q).2<=4832362400168542207:=by decide +kernel
theorem exp_key:key 13873145138068324352=-4649773101213548544/\key 4649456441864749056=4649456441864749056:=by decide
theorem near_exp {v:Nat} (hv:v<18446744073709551616) (nv:nanB v=false) (k1:-4649773101213548544<=key v) (k2:key v<=4649456441864749056):midQ (divQ (ptQ v) ln2Q)%9223372036854775808<4832362400168542208:=by
 have X:=pt_in hv nv (by omega) (by omega) exp_some (by omega) (by omega) (by rw [exp_key.1];exact k1) (by rw [exp_key.2];exact k2)
 have:=mid_bound (B:=4832362400168542207) (by omega) (divQ_W2 (ptQ_W2 hv) ln2Q_W2) (div_gr X (In.refl ln2Q_W2.1 ln2Q_W2.2 ln2_some)) exp_lo_key exp_hi_key
 omega
theorem cExpAt {v:Nat} (hv:v<18446744073709551616) (nv:nanB v=false) (w:World):Calls Tryz.prog 48 #[.float .f64 v] w fun e w'=>e=.returned (.agg #[.float .f64 (expAtQ v).1,.float .f64 (expAtQ v).2])/\Below w.heap.size w w':=by
 have o1:=o_gt hv (show 4649456441864749056<18446744073709551616 by omega)
 have o2:=o_lt hv (show 13873145138068324352<18446744073709551616 by omega)
 unfold expAtQ
 cases h1:ltB 4649456441864749056 v with
 | true =>
  rw [if_pos rfl]
  rw [h1] at o1
  exact exp_hi v _ o1 (fun w=>inf_w 1 w) (fun w=>cMake (by omega) (infI_lt 1) w) w
 | false =>
  rw [if_neg (by simp)]
  rw [h1] at o1
  cases h2:ltB v 13873145138068324352 with
  | true =>
   rw [if_pos rfl]
   rw [h2] at o2
   exact exp_lo v _ o1 o2 (fun w=>cMake (by omega) (by omega) w) w
  | false =>
   rw [if_neg (by simp)]
   rw [h2] at o2
   unfold ltB at h1 h2
   rw [nv,show nanB 4649456441864749056=false by decide,exp_key.2] at h1
   rw [nv,show nanB 13873145138068324352=false by decide,exp_key.1] at h2
   simp only [Bool.not_false,Bool.true_and,decide_eq_false_iff_not] at h1 h2
   have b:=near_exp hv nv (by omega) (by omega)
   have kr:=nearI_in b
   have hd:=divQ_W2 (ptQ_W2 hv) ln2Q_W2
   have ht:=takenQ_W2 (f:=4604418534313439232) (k:=expKI v) (by omega) hv restLnQ_W2
   exact exp_mid v _ (expKI v) _ _ _ _ _ _ _ o1 o2 (fun w=>cPoint hv w) (fun w=>cLn2 w) (fun w=>cDiv (ptQ_W2 hv) ln2Q_W2 w) (fun w=>cNear hd b w) (fun w=>cFineLn w) (fun w=>cTaken _ (by omega) hv restLnQ_W2 w) (fun w=>cPows ht w) (fun w=>cScaled (pwsE_W2 ht) _ (by unfold expKI;omega) w) w
theorem expAtQ_W2 {v:Nat} (hv:v<18446744073709551616):W2 (expAtQ v):=by
 unfold expAtQ
 split
 ·exact mkQ_W2 (by omega) (infI_lt 1)
 ·split
  ·exact mkQ_W2 (by omega) (by omega)
  ·exact scaledQ_W2 (pwsE_W2 (takenQ_W2 (by omega) hv restLnQ_W2)) _
def risQ (at_:Nat->Nat×Nat) (x:Nat×Nat):Nat×Nat:=if cntQ x=noneQ then noneQ else mkQ (at_ (cntQ x).1).1 (at_ (cntQ x).2).2
theorem risQ_W2 {at_:Nat->Nat×Nat} (h:∀v,v<18446744073709551616->W2 (at_ v)) {x:Nat×Nat} (hx:W2 x):W2 (risQ at_ x):=by
 have hc:=cntQ_W2 hx
 unfold risQ
 split
 ·exact noneQ_W2
 ·exact mkQ_W2 (h _ hc.1).1 (h _ hc.2).2
theorem none_not {c:Nat×Nat} (S:Some2 c.1 c.2):¬c=noneQ:=by
 rintro rfl
 have:=hs_iff.2 S
 rw [show hsB noneQ.1 noneQ.2=false from empty_some] at this
 cases this
def expQ (x:Nat×Nat):Nat×Nat:=risQ expAtQ x
theorem cExp {x:Nat×Nat} (hx:W2 x) (w:World):Calls Tryz.prog 13 #[.agg #[.float .f64 x.1,.float .f64 x.2]] w fun e w'=>e=.returned (.agg #[.float .f64 (expQ x).1,.float .f64 (expQ x).2])/\Below w.heap.size w w':=by
 refine exp_ris x _ (fun w=>?_) w
 have hc:=cntQ_W2 hx
 have c1:=fun w=>cCnt hx w
 have ways:=meet_ways x allQ
 have ec:meetQ x allQ=cntQ x:=rfl
 rw [ec] at ways
 unfold expQ risQ
 generalize cntQ x=c at *
 rcases ways with rfl | S
 ·rw [if_pos rfl]
  exact ris_expAt_none x noneQ c1 noneQ_eq.1 noneQ_eq.2 w
 ·rw [if_neg (none_not S)]
  exact ris_expAt_some x c _ _ _ c1 (some_ne hc.1 S) (fun w=>cExpAt hc.1 S.nl w) (fun w=>cExpAt hc.2 S.nh w) (fun w=>cMake (expAtQ_W2 hc.1).1 (expAtQ_W2 hc.2).2 w) w
theorem expQ_W2 {x:Nat×Nat} (hx:W2 x):W2 (expQ x):=risQ_W2 (fun _ hv=>expAtQ_W2 hv) hx
set_option maxHeartbeats 1000000 in
theorem half_core (t o q a r b s:Nat×Nat) (c1:∀w,Calls Tryz.prog 55 #[.float .f64 4607182418800017408] w fun e w'=>e=.returned (.agg #[.float .f64 o.1,.float .f64 o.2])/\Below w.heap.size w w') (c2:∀w,Calls Tryz.prog 206 #[.agg #[.float .f64 t.1,.float .f64 t.2]] w fun e w'=>e=.returned (.agg #[.float .f64 q.1,.float .f64 q.2])/\Below w.heap.size w w') (c3:∀w,Calls Tryz.prog 61 #[.agg #[.float .f64 o.1,.float .f64 o.2],.agg #[.float .f64 q.1,.float .f64 q.2]] w fun e w'=>e=.returned (.agg #[.float .f64 a.1,.float .f64 a.2])/\Below w.heap.size w w') (c4:∀w,Calls Tryz.prog 190 #[.agg #[.float .f64 a.1,.float .f64 a.2]] w fun e w'=>e=.returned (.agg #[.float .f64 r.1,.float .f64 r.2])/\Below w.heap.size w w') (c5:∀w,Calls Tryz.prog 61 #[.agg #[.float .f64 o.1,.float .f64 o.2],.agg #[.float .f64 r.1,.float .f64 r.2]] w fun e w'=>e=.returned (.agg #[.float .f64 b.1,.float .f64 b.2])/\Below w.heap.size w w') (c6:∀w,Calls Tryz.prog 50 #[.agg #[.float .f64 t.1,.float .f64 t.2],.agg #[.float .f64 b.1,.float .f64 b.2]] w fun e w'=>e=.returned (.agg #[.float .f64 s.1,.float .f64 s.2])/\Below w.heap.size w w') (w:World):Calls Tryz.prog 292 #[.agg #[.float .f64 t.1,.float .f64 t.2]] w fun e w'=>e=.returned (.agg #[.float .f64 s.1,.float .f64 s.2])/\Below w.heap.size w w':=by
 obtain⟨X,R,HB⟩:=enter1 w (.float .f64 t.1) (.float .f64 t.2) 24
 go_enter Tryz.func292,Tryz.ntmps292
 go_upto_region 2 with (go_at_call 55;with_reducible refine (c1 _).mono ?_;rintro _ VV ⟨rfl,hb1⟩;replace X:=X.keep hb1;replace R:=R.keep hb1;replace HB:=later HB hb1;clear hb1)
 have D:Has2 (VV.alloc (.cells #[.float .f64 o.1,.float .f64 o.2] 24)) VV.heap.size (.float .f64 o.1) (.float .f64 o.2):=has2_new _ _ _ _
 have hb1:Below VV.heap.size VV (VV.alloc (.cells #[.float .f64 o.1,.float .f64 o.2] 24)):=by go_grown
 replace X:=X.keep hb1;replace R:=R.keep hb1;replace HB:=later HB hb1;clear hb1
 clear c1
 generalize VV.alloc (.cells #[.float .f64 o.1,.float .f64 o.2] 24)=V2 at *
 generalize VV.heap.size=d at *
 apply tail_alloc1 5 (by kernel_rfl) (by kernel_rfl) rfl
 ·intro W1 hW
  replace X:=X.keep hW
  replace D:=D.keep hW
  have kX0:=fun n:Behind W1=>n.cell X.1 X.2.2.2.2;have kX1:=fun n:Behind W1=>n.cell X.2.1 X.2.2.2.2;have kD0:=fun n:Behind W1=>n.cell D.1 D.2.2.2.2;have kD1:=fun n:Behind W1=>n.cell D.2.1 D.2.2.2.2
  simp only [List.take_succ_cons,List.take_zero]
  repeat (go_big_quiet_step (first | (go_at_call 206;with_reducible refine Behind.call (c2 _)) | (go_at_call 61;with_reducible refine Behind.call (c3 _)) | (go_at_call 190;with_reducible refine Behind.call (c4 _))))
  exact wpQuiet_nil rfl
 intro b W hbb B hb1
 have sX:=X.lt
 have sR:=R.lt
 have sD:=D.lt
 have sHB:=HB.size
 replace X:=X.keep hb1;replace R:=R.keep hb1;replace D:=D.keep hb1;replace HB:=later HB hb1;clear hb1
 have E:=B.put (.float .f64 r.1) (.float .f64 r.2)
 replace X:=X.far2 (c:=b) (by omega) (.float .f64 r.1) (.float .f64 r.2)
 replace R:=R.far2 (c:=b) (by omega) (.float .f64 r.1) (.float .f64 r.2)
 replace D:=D.far2 (c:=b) (by omega) (.float .f64 r.1) (.float .f64 r.2)
 replace HB:Below w.heap.size w ((W.setCell ⟨b,0,none⟩ (.float .f64 r.1)).setCell ⟨b,1,none⟩ (.float .f64 r.2)):=(HB.setCell (by simp;omega) _).setCell (by simp;omega) _
 obtain⟨bb0,bb1,bb2,bb3,bb4⟩:=id B
 simp only [List.drop_succ_cons,List.drop_zero,Act.put,List.setIfInBounds_toArray,List.set_cons_succ,List.set_cons_zero]
 go_upto_region 3 with fail
 clear bb0 bb1 bb2 bb3 bb4 B hbb sX sR sD sHB
 generalize ((W.setCell ⟨b,0,none⟩ (.float .f64 r.1)).setCell ⟨b,1,none⟩ (.float .f64 r.2))=V3 at *
 generalize b=bE at *
 have kX0:=fun n:Behind V3=>n.cell X.1 X.2.2.2.2;have kX1:=fun n:Behind V3=>n.cell X.2.1 X.2.2.2.2;have kD0:=fun n:Behind V3=>n.cell D.1 D.2.2.2.2;have kD1:=fun n:Behind V3=>n.cell D.2.1 D.2.2.2.2;have kE0:=fun n:Behind V3=>n.cell E.1 E.2.2.2.2;have kE1:=fun n:Behind V3=>n.cell E.2.1 E.2.2.2.2
 refine tail_behind 5 (by kernel_rfl) (by kernel_rfl) ?_
 simp only [List.take_succ_cons,List.take_zero,List.drop_succ_cons,List.drop_zero]
 repeat (go_big_quiet_step (first | (go_at_call 61;with_reducible refine Behind.call (c5 _)) | (go_at_call 50;with_reducible refine Behind.call (c6 _))))
 refine wpQuiet_nil ?_
 rintro _ ⟨m',rfl⟩
 obtain⟨W,hb1⟩:=m'
 dsimp only
 clear kX0 kX1 kD0 kD1 kE0 kE1
 replace R:=R.keep hb1;replace HB:=later HB hb1;clear hb1
 obtain⟨k0,k1,k2,k3,k4⟩:=id R
 go_wp2_with fail
 refine bodyPost_ret (v:=.agg #[.float .f64 s.1,.float .f64 s.2]) (by simp [results,Tryz.results292,go_sem, *]) rfl ⟨rfl, ?_⟩;repeat' (first | (with_reducible exact HB) | (with_reducible refine Below.setCell ?_ ?_ _) | go_size)
def halfQ (t:Nat×Nat):Nat×Nat:=divQ t (addQ (ptQ 4607182418800017408) (sqrtQ (addQ (ptQ 4607182418800017408) (sqrQ t))))
theorem halfQ_W2 {t:Nat×Nat} (ht:W2 t):W2 (halfQ t):=divQ_W2 ht (addQ_W2 (ptQ_W2 (by omega)) (sqrtQ_W2 (addQ_W2 (ptQ_W2 (by omega)) (sqrQ_W2 ht))))
theorem cHalf {t:Nat×Nat} (ht:W2 t) (w:World):Calls Tryz.prog 292 #[.agg #[.float .f64 t.1,.float .f64 t.2]] w fun e w'=>e=.returned (.agg #[.float .f64 (halfQ t).1,.float .f64 (halfQ t).2])/\Below w.heap.size w w':=by
 have o:=ptQ_W2 (a:=4607182418800017408) (by omega)
 exact half_core t _ _ _ _ _ _ (fun w=>cPoint (by omega) w) (fun w=>cSqr ht w) (fun w=>cAdd o (sqrQ_W2 ht) w) (fun w=>cSqrt (addQ_W2 o (sqrQ_W2 ht)) w) (fun w=>cAdd o (sqrtQ_W2 (addQ_W2 o (sqrQ_W2 ht))) w) (fun w=>cDiv ht (addQ_W2 o (sqrtQ_W2 (addQ_W2 o (sqrQ_W2 ht)))) w) w
set_option maxHeartbeats 1000000 in
theorem atu_short (t q n u s:Nat×Nat) (m:Nat) (c1:∀w,Calls Tryz.prog 109 #[.agg #[.float .f64 t.1,.float .f64 t.2]] w fun e w'=>e=.returned (.float .f64 m)/\Below w.heap.size w w') (o1:(FloatKind.f64.format.order m 4598175219545276416==some .gt)=false) (c2:∀w,Calls Tryz.prog 206 #[.agg #[.float .f64 t.1,.float .f64 t.2]] w fun e w'=>e=.returned (.agg #[.float .f64 q.1,.float .f64 q.2])/\Below w.heap.size w w') (c3:∀w,Calls Tryz.prog 57 #[.agg #[.float .f64 q.1,.float .f64 q.2]] w fun e w'=>e=.returned (.agg #[.float .f64 n.1,.float .f64 n.2])/\Below w.heap.size w w') (c4:∀w,Calls Tryz.prog 291 #[.agg #[.float .f64 n.1,.float .f64 n.2]] w fun e w'=>e=.returned (.agg #[.float .f64 u.1,.float .f64 u.2])/\Below w.heap.size w w') (c5:∀w,Calls Tryz.prog 54 #[.agg #[.float .f64 t.1,.float .f64 t.2],.agg #[.float .f64 u.1,.float .f64 u.2]] w fun e w'=>e=.returned (.agg #[.float .f64 s.1,.float .f64 s.2])/\Below w.heap.size w w') (w:World):Calls Tryz.prog 272 #[.agg #[.float .f64 t.1,.float .f64 t.2]] w fun e w'=>e=.returned (.agg #[.float .f64 s.1,.float .f64 s.2])/\Below w.heap.size w w':=by
 obtain⟨X,R,HB⟩:=enter1 w (.float .f64 t.1) (.float .f64 t.2) 24
 go_enter Tryz.func272,Tryz.ntmps272
 go_upto_region 1 with fail
 generalize (w.alloc (.cells #[.float .f64 t.1,.float .f64 t.2] 24)).alloc (.cells #[.float .f64 0,.float .f64 0] 24)=V1 at *
 obtain⟨x0,x1,x2,x3,x4⟩:=id X
 go_upto_region 3 with (go_at_call 109;refine (c1 _).mono ?_;rintro _ VV ⟨rfl,hb1⟩;replace X:=X.keep hb1;replace R:=R.keep hb1;replace HB:=later HB hb1;clear hb1)
 clear x0 x1 x2 x3 x4
 generalize VV=V2 at *
 have kX0:=fun n:Behind V2=>n.cell X.1 X.2.2.2.2;have kX1:=fun n:Behind V2=>n.cell X.2.1 X.2.2.2.2
 refine tail_behind 6 (by kernel_rfl) (by kernel_rfl) ?_
 simp only [List.take_succ_cons,List.take_zero,List.drop_succ_cons,List.drop_zero]
 repeat (go_big_quiet_step (first | (go_at_call 206;with_reducible refine Behind.call (c2 _)) | (go_at_call 57;with_reducible refine Behind.call (c3 _)) | (go_at_call 291;with_reducible refine Behind.call (c4 _)) | (go_at_call 54;with_reducible refine Behind.call (c5 _))))
 refine wpQuiet_nil ?_
 rintro _ ⟨m',rfl⟩
 obtain⟨W,hb1⟩:=m'
 dsimp only
 clear kX0 kX1
 replace R:=R.keep hb1;replace HB:=later HB hb1;clear hb1
 obtain⟨k0,k1,k2,k3,k4⟩:=id R
 go_wp2_with fail
 refine bodyPost_ret (v:=.agg #[.float .f64 s.1,.float .f64 s.2]) (by simp [results,Tryz.results272,go_sem, *]) rfl ⟨rfl, ?_⟩;repeat' (first | (with_reducible exact HB) | (with_reducible refine Below.setCell ?_ ?_ _) | go_size)
set_option maxHeartbeats 1000000 in
theorem atu_long (t p h u s:Nat×Nat) (m:Nat) (c1:∀w,Calls Tryz.prog 109 #[.agg #[.float .f64 t.1,.float .f64 t.2]] w fun e w'=>e=.returned (.float .f64 m)/\Below w.heap.size w w') (o1:(FloatKind.f64.format.order m 4598175219545276416==some .gt)=true) (c2:∀w,Calls Tryz.prog 55 #[.float .f64 4611686018427387904] w fun e w'=>e=.returned (.agg #[.float .f64 p.1,.float .f64 p.2])/\Below w.heap.size w w') (c3:∀w,Calls Tryz.prog 292 #[.agg #[.float .f64 t.1,.float .f64 t.2]] w fun e w'=>e=.returned (.agg #[.float .f64 h.1,.float .f64 h.2])/\Below w.heap.size w w') (c4:∀w,Calls Tryz.prog 272 #[.agg #[.float .f64 h.1,.float .f64 h.2]] w fun e w'=>e=.returned (.agg #[.float .f64 u.1,.float .f64 u.2])/\Below w.heap.size w w') (c5:∀w,Calls Tryz.prog 54 #[.agg #[.float .f64 p.1,.float .f64 p.2],.agg #[.float .f64 u.1,.float .f64 u.2]] w fun e w'=>e=.returned (.agg #[.float .f64 s.1,.float .f64 s.2])/\Below w.heap.size w w') (w:World):Calls Tryz.prog 272 #[.agg #[.float .f64 t.1,.float .f64 t.2]] w fun e w'=>e=.returned (.agg #[.float .f64 s.1,.float .f64 s.2])/\Below w.heap.size w w':=by
 obtain⟨X,R,HB⟩:=enter1 w (.float .f64 t.1) (.float .f64 t.2) 24
 go_enter Tryz.func272,Tryz.ntmps272
 go_upto_region 1 with fail
 generalize (w.alloc (.cells #[.float .f64 t.1,.float .f64 t.2] 24)).alloc (.cells #[.float .f64 0,.float .f64 0] 24)=V1 at *
 obtain⟨x0,x1,x2,x3,x4⟩:=id X
 go_upto_region 2 with (go_at_call 109;refine (c1 _).mono ?_;rintro _ VV ⟨rfl,hb1⟩;replace X:=X.keep hb1;replace R:=R.keep hb1;replace HB:=later HB hb1;clear hb1)
 clear x0 x1 x2 x3 x4
 generalize VV=V2 at *
 have kX0:=fun n:Behind V2=>n.cell X.1 X.2.2.2.2;have kX1:=fun n:Behind V2=>n.cell X.2.1 X.2.2.2.2
 refine tail_behind 5 (by kernel_rfl) (by kernel_rfl) ?_
 simp only [List.take_succ_cons,List.take_zero,List.drop_succ_cons,List.drop_zero]
 repeat (go_big_quiet_step (first | (go_at_call 55;with_reducible refine Behind.call (c2 _)) | (go_at_call 292;with_reducible refine Behind.call (c3 _)) | (go_at_call 272;with_reducible refine Behind.call (c4 _)) | (go_at_call 54;with_reducible refine Behind.call (c5 _))))
 refine wpQuiet_nil ?_
 rintro _ ⟨m',rfl⟩
 obtain⟨W,hb1⟩:=m'
 dsimp only
 clear kX0 kX1
 replace R:=R.keep hb1;replace HB:=later HB hb1;clear hb1
 obtain⟨k0,k1,k2,k3,k4⟩:=id R
 go_wp2_with fail
 refine bodyPost_ret (v:=.agg #[.float .f64 s.1,.float .f64 s.2]) (by simp [results,Tryz.results272,go_sem, *]) rfl ⟨rfl, ?_⟩;repeat' (first | (with_reducible exact HB) | (with_reducible refine Below.setCell ?_ ?_ _) | go_size)
def atu0 (t:Nat×Nat):Nat×Nat:=mulQ t (oddE (negQ (sqrQ t)).1 (negQ (sqrQ t)).2)
def atuQ:Nat->Nat×Nat->Nat×Nat
 | 0,t=>atu0 t
 | n+1,t=>if ltB 4598175219545276416 (magQ t) then mulQ (ptQ 4611686018427387904) (atuQ n (halfQ t)) else atu0 t
def Lev:Nat->Nat×Nat->Prop
 | 0,t=>ltB 4598175219545276416 (magQ t)=false
 | n+1,t=>ltB 4598175219545276416 (magQ t)=true->Lev n (halfQ t)
theorem atu0_W2 {t:Nat×Nat} (ht:W2 t):W2 (atu0 t):=mulQ_W2 ht (oddE_W2 (negQ_W2 (sqrQ_W2 ht)))
theorem atuQ_W2:∀(n:Nat) {t:Nat×Nat},W2 t->W2 (atuQ n t)
 | 0,_,ht=>atu0_W2 ht
 | n+1,t,ht=>by
  unfold atuQ
  split
  ·exact mulQ_W2 (ptQ_W2 (by omega)) (atuQ_W2 n (halfQ_W2 ht))
  ·exact atu0_W2 ht
theorem cAtu0 {t:Nat×Nat} (ht:W2 t) (h:ltB 4598175219545276416 (magQ t)=false) (w:World):Calls Tryz.prog 272 #[.agg #[.float .f64 t.1,.float .f64 t.2]] w fun e w'=>e=.returned (.agg #[.float .f64 (atu0 t).1,.float .f64 (atu0 t).2])/\Below w.heap.size w w':=by
 have o:=o_gt (magQ_W (c:=t)) (show 4598175219545276416<18446744073709551616 by omega)
 rw [h] at o
 exact atu_short t _ _ _ _ _ (fun w=>cMag ht w) o (fun w=>cSqr ht w) (fun w=>cNeg (sqrQ_W2 ht) w) (fun w=>cOdds (negQ_W2 (sqrQ_W2 ht)) w) (fun w=>cMul ht (oddE_W2 (negQ_W2 (sqrQ_W2 ht))) w) w
theorem cAtu:∀(n:Nat) {t:Nat×Nat},W2 t->Lev n t->∀w,Calls Tryz.prog 272 #[.agg #[.float .f64 t.1,.float .f64 t.2]] w fun e w'=>e=.returned (.agg #[.float .f64 (atuQ n t).1,.float .f64 (atuQ n t).2])/\Below w.heap.size w w'
 | 0,_,ht,h,w=>cAtu0 ht h w
 | n+1,t,ht,h,w=>by
  unfold atuQ
  unfold Lev at h
  cases hl:ltB 4598175219545276416 (magQ t) with
  | false =>
   rw [if_neg (by simp)]
   exact cAtu0 ht hl w
  | true =>
   rw [if_pos rfl]
   have o:=o_gt (magQ_W (c:=t)) (show 4598175219545276416<18446744073709551616 by omega)
   rw [hl] at o
   exact atu_long t _ _ _ _ _ (fun w=>cMag ht w) o (fun w=>cPoint (by omega) w) (fun w=>cHalf ht w) (fun w=>cAtu n (halfQ_W2 ht) (h hl) w) (fun w=>cMul (ptQ_W2 (by omega)) (atuQ_W2 n (halfQ_W2 ht)) w) w
theorem add_noneQ (p:Nat×Nat):addQ p noneQ=noneQ:=by
 unfold addQ addP
 rw [show hsB noneQ.1 noneQ.2=false from empty_some,Bool.and_false,if_neg (by simp)]
 rfl
theorem sqrt_noneQ:sqrtQ noneQ=noneQ:=by
 unfold sqrtQ sqrtP
 rw [show hsB noneQ.1 noneQ.2=false from empty_some,Bool.false_and,if_neg (by simp)]
 rfl
theorem div_noneQ (p:Nat×Nat):divQ p noneQ=noneQ:=by
 unfold divQ divP
 rw [show hsB noneQ.1 noneQ.2=false from empty_some,Bool.and_false]
 rfl
theorem gr_in {p q:Nat×Nat} (hp:W2 p) (hq:W2 q) (h:Gr p q):p=noneQ\/In p.1 p.2 q.1 q.2:=by
 rcases h with ⟨e, -⟩ | ⟨S,T,a,b⟩
 ·exact Or.inl e
 ·exact Or.inr ⟨S,T,a,b,hp.1,hp.2,hq.1,hq.2⟩
theorem one_in:In (ptQ 4607182418800017408).1 (ptQ 4607182418800017408).2 (ptQ 4607182418800017408).1 (ptQ 4607182418800017408).2 :=
 In.refl (ptQ_W2 (by omega)).1 (ptQ_W2 (by omega)).2 (hs_iff.1 (by decide +kernel))
theorem sqrt_one (dir:Int):key (sqrtF 4607182418800017408 dir)=key 4607182418800017408 :=
 sqrt_exact (u:=1076) rfl (by omega) (by decide) (by decide) (by decide) (by decide +kernel) dir
theorem sqrt_lo {lo hi:Nat} (h:(hsB lo hi&&!ltB hi 0)=true):(sqrtP lo hi).1=sqrtV (maxW lo 0) (-1):=by
 unfold sqrtP
 rw [if_pos h]
theorem sqrt_lo_one {lo hi:Nat} (h:(hsB lo hi&&!ltB hi 0)=true) (hm:maxW lo 0=lo) (f:finB lo=true) (g:splitG lo=false):(sqrtP lo hi).1=sqrtF lo (-1):=by
 rw [sqrt_lo h,hm]
 exact sqrtV_fin (-1) f g
theorem sqrt_ends:key (sqrtQ (4607182418800017408,9218868437227405312)).1=key 4607182418800017408 :=
 (congrArg key (sqrt_lo_one (lo:=4607182418800017408) (hi:=9218868437227405312) (by decide +kernel) (by decide +kernel) (by decide) (by decide))).trans (sqrt_one (-1))
theorem to_inf {lo hi u:Nat} (h1:lo<18446744073709551616) (h2:hi<18446744073709551616) (hu:u<18446744073709551616) (S:Some2 lo hi) (T:Some2 u 9218868437227405312) (k:key u<=key lo):In lo hi u 9218868437227405312 :=
 ⟨S,T,k,(key_range h2 S.nh).2,h1,h2,hu,by omega⟩
theorem half_in {t u:Nat×Nat} (X:In t.1 t.2 u.1 u.2) (X1:In t.1 t.2 0 4607182418800017408):halfQ t=noneQ\/In (halfQ t).1 (halfQ t).2 (divQ u (4611686018427387904,9218868437227405312)).1 (divQ u (4611686018427387904,9218868437227405312)).2:=by
 have ht:W2 t:=⟨X.a1,X.a2⟩
 have hu:W2 u:=⟨X.b1,X.b2⟩
 have ho:=ptQ_W2 (a:=4607182418800017408) (by omega)
 have oi:=one_in
 have g1:sqrQ (0,4607182418800017408)=(0,4607182418800017408):=by decide +kernel
 have g2:addQ (ptQ 4607182418800017408) (0,9218868437227405312)=(4607182418800017408,9218868437227405312):=by decide +kernel
 have g3:addQ (ptQ 4607182418800017408) (4607182418800017408,9218868437227405312)=(4611686018427387904,9218868437227405312):=by decide +kernel
 have i0:Some2 0 9218868437227405312:=hs_iff.1 (by decide)
 have i1:Some2 4607182418800017408 9218868437227405312:=hs_iff.1 (by decide)
 unfold halfQ
 generalize ptQ 4607182418800017408=o at *
 have hq:=sqrQ_W2 ht
 have gq:Gr (sqrQ t) (sqrQ (0,4607182418800017408)):=sqr_gr X1
 rw [g1] at gq
 generalize sqrQ t=q at *
 rcases gq with ⟨e, -⟩ | ⟨S, -,k, -⟩
 ·have e:q=noneQ:=e
  rw [e,add_noneQ,sqrt_noneQ,add_noneQ,div_noneQ];exact Or.inl rfl
 ·have ga:Gr (addQ o q) (addQ o (0,9218868437227405312)):=add_gr oi (to_inf hq.1 hq.2 (by omega) S i0 k)
  have ha:=addQ_W2 ho hq
  rw [g2] at ga
  generalize addQ o q=a at *
  rcases ga with ⟨e, -⟩ | ⟨S, -,k, -⟩
  ·have e:a=noneQ:=e
   rw [e,sqrt_noneQ,add_noneQ,div_noneQ];exact Or.inl rfl
  ·have gr:Gr (sqrtQ a) (sqrtQ (4607182418800017408,9218868437227405312)):=sqrt_gr (to_inf ha.1 ha.2 (by omega) S i1 k)
   have hr:=sqrtQ_W2 ha
   generalize sqrtQ a=r at *
   rcases gr with ⟨e, -⟩ | ⟨S, -,k, -⟩
   ·have e:r=noneQ:=e
    rw [e,add_noneQ,div_noneQ];exact Or.inl rfl
   ·rw [sqrt_ends] at k
    have gb:Gr (addQ o r) (addQ o (4607182418800017408,9218868437227405312)):=add_gr oi (to_inf hr.1 hr.2 (by omega) S i1 k)
    have hb:=addQ_W2 ho hr
    rw [g3] at gb
    generalize addQ o r=b at *
    rcases gr_in hb (show W2 (4611686018427387904,9218868437227405312) by decide) gb with e | B
    ·rw [e,div_noneQ];exact Or.inl rfl
    ·exact gr_in (divQ_W2 ht hb) (divQ_W2 hu (show W2 (4611686018427387904,9218868437227405312) by decide)) (div_gr X B)
theorem half_one:divQ (0,4607182418800017408) (4611686018427387904,9218868437227405312)=(0,4602678819172646912):=by decide +kernel
theorem half_half:divQ (0,4602678819172646912) (4611686018427387904,9218868437227405312)=(0,4598175219545276416):=by decide +kernel
theorem mag_none:ltB 4598175219545276416 (magQ noneQ)=false:=by decide +kernel
theorem mag_quarter {s:Nat×Nat} (X:In s.1 s.2 0 4598175219545276416):ltB 4598175219545276416 (magQ s)=false:=by
 have S:=X.S
 have k1:=key_abs X.a1
 have k2:=key_abs X.a2
 have m:=(maxW_key (s.1%9223372036854775808) (s.2%9223372036854775808))
 have e:magQ s=maxW (s.1%9223372036854775808) (s.2%9223372036854775808):=by unfold magQ magP;rw [if_pos (hs_iff.2 S)]
 have a:=X.kl
 have b:=X.kh
 have le:=S.le
 have z:key 0=0:=by decide
 have q:key 4598175219545276416=4598175219545276416:=by decide
 rw [e]
 unfold ltB
 rw [m.1,k1,k2,q]
 rw [z] at a
 rw [q] at b
 have:¬(4598175219545276416:Int)<max (if key s.1<0 then-key s.1 else key s.1) (if key s.2<0 then-key s.2 else key s.2):=by
  generalize key s.1=u at *
  generalize key s.2=v at *
  omega
 rw [decide_eq_false this,Bool.and_false]
theorem lev_two {t:Nat×Nat} (h:t=noneQ\/In t.1 t.2 0 4607182418800017408):Lev 2 t:=by
 intro h1
 intro h2
 show ltB 4598175219545276416 (magQ (halfQ (halfQ t)))=false
 rcases h with rfl | X
 ·rw [mag_none] at h1;cases h1
 ·rcases half_in (t:=t) (u:=(0,4607182418800017408)) X X with e | Y
  ·rw [e,mag_none] at h2;cases h2
  ·rw [half_one] at Y
   have k1:key 4602678819172646912<=key 4607182418800017408:=by decide
   have Y1:In (halfQ t).1 (halfQ t).2 0 4607182418800017408:=⟨Y.S,X.T,Y.kl,Int.le_trans Y.kh k1,Y.a1,Y.a2,X.b1,X.b2⟩
   rcases half_in (t:=halfQ t) (u:=(0,4602678819172646912)) Y Y1 with e | Z
   ·rw [e];exact mag_none
   ·rw [half_half] at Z
    exact mag_quarter Z
theorem isInfP_w (x:Nat) (hx:x<18446744073709551616) (w:World):Calls Tryz.prog 176 #[.float .f64 x,.int .i64 1] w fun e w'=>e=.returned (.bool (decide (x=9218868437227405312)))/\w=w':=by
 have ho:(FloatKind.f64.format.order x 9218868437227405311==some .gt)=decide (x=9218868437227405312):=by
  rw [o_gt hx (by omega)]
  unfold ltB nanB key
  rw [Bool.eq_iff_iff]
  simp only [Bool.and_eq_true,Bool.not_eq_true',decide_eq_false_iff_not,decide_eq_true_eq]
  split <;> split <;> omega
 generalize decide (x=9218868437227405312)=b at *
 go_enter Tryz.func176,Tryz.ntmps176
 go_wp2_with fail
 all_goals (go_ret;exact⟨rfl,rfl⟩)
set_option maxHeartbeats 1000000 in
theorem at_neg (v n:Nat) (p l h a s:Nat×Nat) (c1:∀w,Calls Tryz.prog 55 #[.float .f64 4602678819172646912] w fun e w'=>e=.returned (.agg #[.float .f64 p.1,.float .f64 p.2])/\Below w.heap.size w w') (c2:∀w,Calls Tryz.prog 5 #[] w fun e w'=>e=.returned (.agg #[.float .f64 l.1,.float .f64 l.2])/\Below w.heap.size w w') (c3:∀w,Calls Tryz.prog 54 #[.agg #[.float .f64 p.1,.float .f64 p.2],.agg #[.float .f64 l.1,.float .f64 l.2]] w fun e w'=>e=.returned (.agg #[.float .f64 h.1,.float .f64 h.2])/\Below w.heap.size w w') (o1:(FloatKind.f64.format.order v 0==some .lt)=true) (hn:Op.negFloat .f64 v=n) (c4:∀w,Calls Tryz.prog 241 #[.float .f64 n] w fun e w'=>e=.returned (.agg #[.float .f64 a.1,.float .f64 a.2])/\Below w.heap.size w w') (c5:∀w,Calls Tryz.prog 57 #[.agg #[.float .f64 a.1,.float .f64 a.2]] w fun e w'=>e=.returned (.agg #[.float .f64 s.1,.float .f64 s.2])/\Below w.heap.size w w') (w:World):Calls Tryz.prog 241 #[.float .f64 v] w fun e w'=>e=.returned (.agg #[.float .f64 s.1,.float .f64 s.2])/\Below w.heap.size w w':=by
 have R:Has2 (w.alloc (.cells #[.float .f64 0,.float .f64 0] 24)) w.heap.size (.float .f64 0) (.float .f64 0):=has2_new _ _ _ _
 have HB:Below w.heap.size w (w.alloc (.cells #[.float .f64 0,.float .f64 0] 24)):=by go_grown
 go_enter Tryz.func241,Tryz.ntmps241
 go_upto_region 2 with (first | (go_at_call 55;with_reducible refine (c1 _).mono ?_;rintro _ VV ⟨rfl,hb1⟩;replace R:=R.keep hb1;replace HB:=later HB hb1;clear hb1) | (go_at_call 5;with_reducible refine (c2 _).mono ?_;rintro _ VV ⟨rfl,hb1⟩;replace R:=R.keep hb1;replace HB:=later HB hb1;clear hb1) | (go_at_call 54;with_reducible refine (c3 _).mono ?_;rintro _ VV ⟨rfl,hb1⟩;replace R:=R.keep hb1;replace HB:=later HB hb1;clear hb1))
 have D:Has2 (VV.alloc (.cells #[.float .f64 h.1,.float .f64 h.2] 24)) VV.heap.size (.float .f64 h.1) (.float .f64 h.2):=has2_new _ _ _ _
 have hb1:Below VV.heap.size VV (VV.alloc (.cells #[.float .f64 h.1,.float .f64 h.2] 24)):=by go_grown
 replace R:=R.keep hb1;replace HB:=later HB hb1;clear hb1
 clear c1 c2 c3
 generalize VV.alloc (.cells #[.float .f64 h.1,.float .f64 h.2] 24)=V2 at *
 generalize VV.heap.size=d at *
 go_wp2_with (first
  | (go_at_call 241;refine (c4 _).mono ?_;rintro _ VV ⟨rfl,hb1⟩;replace R:=R.keep hb1;replace HB:=later HB hb1;clear hb1)
  | (go_at_call 57;refine (c5 _).mono ?_;rintro _ V3 ⟨rfl,hb1⟩;replace R:=R.keep hb1;replace HB:=later HB hb1;clear hb1;obtain⟨k0,k1,k2,k3,k4⟩:=id R))
 refine bodyPost_ret (v:=.agg #[.float .f64 s.1,.float .f64 s.2]) (by simp [results,Tryz.results241,go_sem, *]) rfl ⟨rfl, ?_⟩;repeat' (first | (with_reducible exact HB) | (with_reducible refine Below.setCell ?_ ?_ _) | go_size)
set_option maxHeartbeats 1000000 in
theorem at_inf (v:Nat) (p l h:Nat×Nat) (c1:∀w,Calls Tryz.prog 55 #[.float .f64 4602678819172646912] w fun e w'=>e=.returned (.agg #[.float .f64 p.1,.float .f64 p.2])/\Below w.heap.size w w') (c2:∀w,Calls Tryz.prog 5 #[] w fun e w'=>e=.returned (.agg #[.float .f64 l.1,.float .f64 l.2])/\Below w.heap.size w w') (c3:∀w,Calls Tryz.prog 54 #[.agg #[.float .f64 p.1,.float .f64 p.2],.agg #[.float .f64 l.1,.float .f64 l.2]] w fun e w'=>e=.returned (.agg #[.float .f64 h.1,.float .f64 h.2])/\Below w.heap.size w w') (o1:(FloatKind.f64.format.order v 0==some .lt)=false) (c4:∀w,Calls Tryz.prog 176 #[.float .f64 v,.int .i64 1] w fun e w'=>e=.returned (.bool true)/\w=w') (w:World):Calls Tryz.prog 241 #[.float .f64 v] w fun e w'=>e=.returned (.agg #[.float .f64 h.1,.float .f64 h.2])/\Below w.heap.size w w':=by
 have R:Has2 (w.alloc (.cells #[.float .f64 0,.float .f64 0] 24)) w.heap.size (.float .f64 0) (.float .f64 0):=has2_new _ _ _ _
 have HB:Below w.heap.size w (w.alloc (.cells #[.float .f64 0,.float .f64 0] 24)):=by go_grown
 go_enter Tryz.func241,Tryz.ntmps241
 go_upto_region 2 with (first | (go_at_call 55;with_reducible refine (c1 _).mono ?_;rintro _ VV ⟨rfl,hb1⟩;replace R:=R.keep hb1;replace HB:=later HB hb1;clear hb1) | (go_at_call 5;with_reducible refine (c2 _).mono ?_;rintro _ VV ⟨rfl,hb1⟩;replace R:=R.keep hb1;replace HB:=later HB hb1;clear hb1) | (go_at_call 54;with_reducible refine (c3 _).mono ?_;rintro _ VV ⟨rfl,hb1⟩;replace R:=R.keep hb1;replace HB:=later HB hb1;clear hb1))
 have D:Has2 (VV.alloc (.cells #[.float .f64 h.1,.float .f64 h.2] 24)) VV.heap.size (.float .f64 h.1) (.float .f64 h.2):=has2_new _ _ _ _
 have hb1:Below VV.heap.size VV (VV.alloc (.cells #[.float .f64 h.1,.float .f64 h.2] 24)):=by go_grown
 replace R:=R.keep hb1;replace HB:=later HB hb1;clear hb1
 clear c1 c2 c3
 generalize VV.alloc (.cells #[.float .f64 h.1,.float .f64 h.2] 24)=V2 at *
 generalize VV.heap.size=d at *
 obtain⟨d0,d1,d2,d3,d4⟩:=id D
 obtain⟨k0,k1,k2,k3,k4⟩:=id R
 go_wp2_with (go_at_call 176;refine (c4 _).mono ?_;rintro _ V3 ⟨rfl,rfl⟩)
 refine bodyPost_ret (v:=.agg #[.float .f64 h.1,.float .f64 h.2]) (by simp [results,Tryz.results241,go_sem, *]) rfl ⟨rfl, ?_⟩;repeat' (first | (with_reducible exact HB) | (with_reducible refine Below.setCell ?_ ?_ _) | go_size)
set_option maxHeartbeats 1000000 in
theorem at_small (v:Nat) (p l h q s:Nat×Nat) (c1:∀w,Calls Tryz.prog 55 #[.float .f64 4602678819172646912] w fun e w'=>e=.returned (.agg #[.float .f64 p.1,.float .f64 p.2])/\Below w.heap.size w w') (c2:∀w,Calls Tryz.prog 5 #[] w fun e w'=>e=.returned (.agg #[.float .f64 l.1,.float .f64 l.2])/\Below w.heap.size w w') (c3:∀w,Calls Tryz.prog 54 #[.agg #[.float .f64 p.1,.float .f64 p.2],.agg #[.float .f64 l.1,.float .f64 l.2]] w fun e w'=>e=.returned (.agg #[.float .f64 h.1,.float .f64 h.2])/\Below w.heap.size w w') (o1:(FloatKind.f64.format.order v 0==some .lt)=false) (c4:∀w,Calls Tryz.prog 176 #[.float .f64 v,.int .i64 1] w fun e w'=>e=.returned (.bool false)/\w=w') (o2:(FloatKind.f64.format.order v 4607182418800017408==some .gt)=false) (c5:∀w,Calls Tryz.prog 55 #[.float .f64 v] w fun e w'=>e=.returned (.agg #[.float .f64 q.1,.float .f64 q.2])/\Below w.heap.size w w') (c6:∀w,Calls Tryz.prog 272 #[.agg #[.float .f64 q.1,.float .f64 q.2]] w fun e w'=>e=.returned (.agg #[.float .f64 s.1,.float .f64 s.2])/\Below w.heap.size w w') (w:World):Calls Tryz.prog 241 #[.float .f64 v] w fun e w'=>e=.returned (.agg #[.float .f64 s.1,.float .f64 s.2])/\Below w.heap.size w w':=by
 have R:Has2 (w.alloc (.cells #[.float .f64 0,.float .f64 0] 24)) w.heap.size (.float .f64 0) (.float .f64 0):=has2_new _ _ _ _
 have HB:Below w.heap.size w (w.alloc (.cells #[.float .f64 0,.float .f64 0] 24)):=by go_grown
 go_enter Tryz.func241,Tryz.ntmps241
 go_upto_region 2 with (first | (go_at_call 55;with_reducible refine (c1 _).mono ?_;rintro _ VV ⟨rfl,hb1⟩;replace R:=R.keep hb1;replace HB:=later HB hb1;clear hb1) | (go_at_call 5;with_reducible refine (c2 _).mono ?_;rintro _ VV ⟨rfl,hb1⟩;replace R:=R.keep hb1;replace HB:=later HB hb1;clear hb1) | (go_at_call 54;with_reducible refine (c3 _).mono ?_;rintro _ VV ⟨rfl,hb1⟩;replace R:=R.keep hb1;replace HB:=later HB hb1;clear hb1))
 have D:Has2 (VV.alloc (.cells #[.float .f64 h.1,.float .f64 h.2] 24)) VV.heap.size (.float .f64 h.1) (.float .f64 h.2):=has2_new _ _ _ _
 have hb1:Below VV.heap.size VV (VV.alloc (.cells #[.float .f64 h.1,.float .f64 h.2] 24)):=by go_grown
 replace R:=R.keep hb1;replace HB:=later HB hb1;clear hb1
 clear c1 c2 c3
 generalize VV.alloc (.cells #[.float .f64 h.1,.float .f64 h.2] 24)=V2 at *
 generalize VV.heap.size=d at *
 go_wp2_with (first
  | (go_at_call 176;refine (c4 _).mono ?_;rintro _ V3 ⟨rfl,rfl⟩)
  | (go_at_call 55;refine (c5 _).mono ?_;rintro _ VV ⟨rfl,hb1⟩;replace R:=R.keep hb1;replace HB:=later HB hb1;clear hb1)
  | (go_at_call 272;refine (c6 _).mono ?_;rintro _ V3 ⟨rfl,hb1⟩;replace R:=R.keep hb1;replace HB:=later HB hb1;clear hb1;obtain⟨k0,k1,k2,k3,k4⟩:=id R))
 refine bodyPost_ret (v:=.agg #[.float .f64 s.1,.float .f64 s.2]) (by simp [results,Tryz.results241,go_sem, *]) rfl ⟨rfl, ?_⟩;repeat' (first | (with_reducible exact HB) | (with_reducible refine Below.setCell ?_ ?_ _) | go_size)
set_option maxHeartbeats 1000000 in
theorem at_big (v:Nat) (p l h o q r u s:Nat×Nat) (c1:∀w,Calls Tryz.prog 55 #[.float .f64 4602678819172646912] w fun e w'=>e=.returned (.agg #[.float .f64 p.1,.float .f64 p.2])/\Below w.heap.size w w') (c2:∀w,Calls Tryz.prog 5 #[] w fun e w'=>e=.returned (.agg #[.float .f64 l.1,.float .f64 l.2])/\Below w.heap.size w w') (c3:∀w,Calls Tryz.prog 54 #[.agg #[.float .f64 p.1,.float .f64 p.2],.agg #[.float .f64 l.1,.float .f64 l.2]] w fun e w'=>e=.returned (.agg #[.float .f64 h.1,.float .f64 h.2])/\Below w.heap.size w w') (o1:(FloatKind.f64.format.order v 0==some .lt)=false) (c4:∀w,Calls Tryz.prog 176 #[.float .f64 v,.int .i64 1] w fun e w'=>e=.returned (.bool false)/\w=w') (o2:(FloatKind.f64.format.order v 4607182418800017408==some .gt)=true) (c5:∀w,Calls Tryz.prog 55 #[.float .f64 4607182418800017408] w fun e w'=>e=.returned (.agg #[.float .f64 o.1,.float .f64 o.2])/\Below w.heap.size w w') (c6:∀w,Calls Tryz.prog 55 #[.float .f64 v] w fun e w'=>e=.returned (.agg #[.float .f64 q.1,.float .f64 q.2])/\Below w.heap.size w w') (c7:∀w,Calls Tryz.prog 50 #[.agg #[.float .f64 o.1,.float .f64 o.2],.agg #[.float .f64 q.1,.float .f64 q.2]] w fun e w'=>e=.returned (.agg #[.float .f64 r.1,.float .f64 r.2])/\Below w.heap.size w w') (c8:∀w,Calls Tryz.prog 272 #[.agg #[.float .f64 r.1,.float .f64 r.2]] w fun e w'=>e=.returned (.agg #[.float .f64 u.1,.float .f64 u.2])/\Below w.heap.size w w') (c9:∀w,Calls Tryz.prog 56 #[.agg #[.float .f64 h.1,.float .f64 h.2],.agg #[.float .f64 u.1,.float .f64 u.2]] w fun e w'=>e=.returned (.agg #[.float .f64 s.1,.float .f64 s.2])/\Below w.heap.size w w') (w:World):Calls Tryz.prog 241 #[.float .f64 v] w fun e w'=>e=.returned (.agg #[.float .f64 s.1,.float .f64 s.2])/\Below w.heap.size w w':=by
 have R:Has2 (w.alloc (.cells #[.float .f64 0,.float .f64 0] 24)) w.heap.size (.float .f64 0) (.float .f64 0):=has2_new _ _ _ _
 have HB:Below w.heap.size w (w.alloc (.cells #[.float .f64 0,.float .f64 0] 24)):=by go_grown
 go_enter Tryz.func241,Tryz.ntmps241
 go_upto_region 2 with (first | (go_at_call 55;with_reducible refine (c1 _).mono ?_;rintro _ VV ⟨rfl,hb1⟩;replace R:=R.keep hb1;replace HB:=later HB hb1;clear hb1) | (go_at_call 5;with_reducible refine (c2 _).mono ?_;rintro _ VV ⟨rfl,hb1⟩;replace R:=R.keep hb1;replace HB:=later HB hb1;clear hb1) | (go_at_call 54;with_reducible refine (c3 _).mono ?_;rintro _ VV ⟨rfl,hb1⟩;replace R:=R.keep hb1;replace HB:=later HB hb1;clear hb1))
 have D:Has2 (VV.alloc (.cells #[.float .f64 h.1,.float .f64 h.2] 24)) VV.heap.size (.float .f64 h.1) (.float .f64 h.2):=has2_new _ _ _ _
 have hb1:Below VV.heap.size VV (VV.alloc (.cells #[.float .f64 h.1,.float .f64 h.2] 24)):=by go_grown
 replace R:=R.keep hb1;replace HB:=later HB hb1;clear hb1
 clear c1 c2 c3
 generalize VV.alloc (.cells #[.float .f64 h.1,.float .f64 h.2] 24)=V2 at *
 generalize VV.heap.size=d at *
 go_upto_region 7 with (go_at_call 176;refine (c4 _).mono ?_;rintro _ V3 ⟨rfl,rfl⟩)
 have kD0:=fun n:Behind V2=>n.cell D.1 D.2.2.2.2;have kD1:=fun n:Behind V2=>n.cell D.2.1 D.2.2.2.2
 refine tail_behind 7 (by kernel_rfl) (by kernel_rfl) ?_
 simp only [List.take_succ_cons,List.take_zero,List.drop_succ_cons,List.drop_zero]
 repeat (go_big_quiet_step (first | (go_at_call 55;with_reducible refine Behind.call (c5 _)) | (go_at_call 55;with_reducible refine Behind.call (c6 _)) | (go_at_call 50;with_reducible refine Behind.call (c7 _)) | (go_at_call 272;with_reducible refine Behind.call (c8 _)) | (go_at_call 56;with_reducible refine Behind.call (c9 _))))
 refine wpQuiet_nil ?_
 rintro _ ⟨m',rfl⟩
 obtain⟨W,hb1⟩:=m'
 dsimp only
 clear kD0 kD1
 replace R:=R.keep hb1;replace HB:=later HB hb1;clear hb1
 obtain⟨k0,k1,k2,k3,k4⟩:=id R
 go_wp2_with fail
 refine bodyPost_ret (v:=.agg #[.float .f64 s.1,.float .f64 s.2]) (by simp [results,Tryz.results241,go_sem, *]) rfl ⟨rfl, ?_⟩;repeat' (first | (with_reducible exact HB) | (with_reducible refine Below.setCell ?_ ?_ _) | go_size)
def atanPos (v:Nat):Nat×Nat:=if v=9218868437227405312 then halfPiQ else if ltB 4607182418800017408 v then subQ halfPiQ (atuQ 2 (divQ (ptQ 4607182418800017408) (ptQ v))) else atuQ 2 (ptQ v)
def atanAtQ (v:Nat):Nat×Nat:=if ltB v 0 then negQ (atanPos (negB v)) else atanPos v
theorem atanPos_W2 {v:Nat} (hv:v<18446744073709551616):W2 (atanPos v):=by
 unfold atanPos
 split
 ·exact halfPiQ_W2
 ·split
  ·exact subQ_W2 halfPiQ_W2 (atuQ_W2 2 (divQ_W2 (ptQ_W2 (by omega)) (ptQ_W2 hv)))
  ·exact atuQ_W2 2 (ptQ_W2 hv)
theorem atanAtQ_W2 {v:Nat} (hv:v<18446744073709551616):W2 (atanAtQ v):=by
 unfold atanAtQ
 split
 ·exact negQ_W2 (atanPos_W2 (negB_lt hv))
 ·exact atanPos_W2 hv
theorem cHalfPi1 (w:World):Calls Tryz.prog 55 #[.float .f64 4602678819172646912] w fun e w'=>e=.returned (.agg #[.float .f64 (ptQ 4602678819172646912).1,.float .f64 (ptQ 4602678819172646912).2])/\Below w.heap.size w w':=cPoint (by omega) w
theorem cHalfPi3 (w:World):Calls Tryz.prog 54 #[.agg #[.float .f64 (ptQ 4602678819172646912).1,.float .f64 (ptQ 4602678819172646912).2],.agg #[.float .f64 (mkQ 4614256656552045848 4614256656552045849).1,.float .f64 (mkQ 4614256656552045848 4614256656552045849).2]] w fun e w'=>e=.returned (.agg #[.float .f64 halfPiQ.1,.float .f64 halfPiQ.2])/\Below w.heap.size w w':=cMul (ptQ_W2 (by omega)) (mkQ_W2 (by omega) (by omega)) w
theorem unit_some:Some2 0 4607182418800017408:=hs_iff.1 (by decide)
theorem over_lo:key 0<=key (divQ (ptQ 4607182418800017408) (4607182418800017408,9218868437227405311)).1:=by decide +kernel
theorem over_hi:key (divQ (ptQ 4607182418800017408) (4607182418800017408,9218868437227405311)).2<=key 4607182418800017408:=by decide +kernel
theorem big_some:Some2 4607182418800017408 9218868437227405311:=hs_iff.1 (by decide)
theorem cAtanPos {v:Nat} (hv:v<18446744073709551616) (nv:nanB v=false) (k0:0<=key v) (w:World):Calls Tryz.prog 241 #[.float .f64 v] w fun e w'=>e=.returned (.agg #[.float .f64 (atanPos v).1,.float .f64 (atanPos v).2])/\Below w.heap.size w w':=by
 have o1:=o_lt hv (show 0<18446744073709551616 by omega)
 have l0:ltB v 0=false:=by unfold ltB;rw [show key 0=0 by decide,decide_eq_false (by omega),Bool.and_false]
 rw [l0] at o1
 have ci:=fun w=>isInfP_w v hv w
 have kr:=key_range hv nv
 unfold atanPos
 by_cases hi:v=9218868437227405312
 ·rw [if_pos hi]
  rw [decide_eq_true hi] at ci
  exact at_inf v _ _ _ cHalfPi1 cPi cHalfPi3 o1 ci w
 ·rw [if_neg hi]
  rw [decide_eq_false hi] at ci
  have kf:key v<9218868437227405312:=by
   rcases Int.lt_or_eq_of_le kr.2 with c | c
   ·exact c
   ·exfalso
    unfold key at c
    split at c <;> omega
  have o2:=o_gt hv (show 4607182418800017408<18446744073709551616 by omega)
  have ke:key 4607182418800017408=4607182418800017408:=by decide
  have hp:=ptQ_W2 hv
  have ho:=ptQ_W2 (a:=4607182418800017408) (by omega)
  cases h1:ltB 4607182418800017408 v with
  | true =>
   rw [if_pos rfl]
   rw [h1] at o2
   unfold ltB at h1
   rw [nv,ke] at h1
   simp only [Bool.and_eq_true,decide_eq_true_eq] at h1
   have km:key 9218868437227405311=9218868437227405311:=by decide
   have Y:=pt_in hv nv (by omega) kf big_some (by omega) (by omega) (by rw [ke];omega) (by rw [km];omega)
   have g:Gr (divQ (ptQ 4607182418800017408) (ptQ v)) (divQ (ptQ 4607182418800017408) (4607182418800017408,9218868437227405311)):=div_gr one_in Y
   have hd:=divQ_W2 ho hp
   have L:Lev 2 (divQ (ptQ 4607182418800017408) (ptQ v)):=by
    refine lev_two ?_
    rcases g with ⟨e, -⟩ | ⟨S, -,a,b⟩
    ·exact Or.inl e
    ·exact Or.inr ⟨S,unit_some,Int.le_trans over_lo a,Int.le_trans b over_hi,hd.1,hd.2,by omega,by omega⟩
   exact at_big v _ _ _ _ _ _ _ _ cHalfPi1 cPi cHalfPi3 o1 ci o2 (fun w=>cPoint (by omega) w) (fun w=>cPoint hv w) (fun w=>cDiv ho hp w) (fun w=>cAtu 2 hd L w) (fun w=>cSub halfPiQ_W2 (atuQ_W2 2 hd) w) w
  | false =>
   rw [if_neg (by simp)]
   rw [h1] at o2
   unfold ltB at h1
   rw [nv,ke,show nanB 4607182418800017408=false by decide] at h1
   simp only [Bool.not_false,Bool.true_and,decide_eq_false_iff_not] at h1
   have X:=pt_in hv nv (by omega) kf unit_some (by omega) (by omega) (by rw [show key 0=0 by decide];exact k0) (by rw [ke];omega)
   exact at_small v _ _ _ _ _ cHalfPi1 cPi cHalfPi3 o1 ci o2 (fun w=>cPoint hv w) (fun w=>cAtu 2 hp (lev_two (Or.inr X)) w) w
theorem cAtanAt {v:Nat} (hv:v<18446744073709551616) (nv:nanB v=false) (w:World):Calls Tryz.prog 241 #[.float .f64 v] w fun e w'=>e=.returned (.agg #[.float .f64 (atanAtQ v).1,.float .f64 (atanAtQ v).2])/\Below w.heap.size w w':=by
 unfold atanAtQ
 cases h:ltB v 0 with
 | true =>
  rw [if_pos rfl]
  have o1:=o_lt hv (show 0<18446744073709551616 by omega)
  rw [h] at o1
  unfold ltB at h
  rw [show key 0=0 by decide] at h
  simp only [Bool.and_eq_true,decide_eq_true_eq] at h
  have hn:=negB_lt hv
  have kn:=key_negB hv
  have nn:=nanB_negB hv
  exact at_neg v _ _ _ _ _ _ cHalfPi1 cPi cHalfPi3 o1 (negFloat_eq v hv) (fun w=>cAtanPos hn (by rw [nn];exact nv) (by omega) w) (fun w=>cNeg (atanPos_W2 hn) w) w
 | false =>
  rw [if_neg (by simp)]
  unfold ltB at h
  rw [nv,show key 0=0 by decide,show nanB 0=false by decide] at h
  simp only [Bool.not_false,Bool.true_and,decide_eq_false_iff_not] at h
  exact cAtanPos hv nv (by omega) w
def atanQ (x:Nat×Nat):Nat×Nat:=risQ atanAtQ x
theorem cAtan {x:Nat×Nat} (hx:W2 x) (w:World):Calls Tryz.prog 192 #[.agg #[.float .f64 x.1,.float .f64 x.2]] w fun e w'=>e=.returned (.agg #[.float .f64 (atanQ x).1,.float .f64 (atanQ x).2])/\Below w.heap.size w w':=by
 refine atan_ris x _ (fun w=>?_) w
 have hc:=cntQ_W2 hx
 have c1:=fun w=>cCnt hx w
 have ways:=meet_ways x allQ
 have ec:meetQ x allQ=cntQ x:=rfl
 rw [ec] at ways
 unfold atanQ risQ
 generalize cntQ x=c at *
 rcases ways with rfl | S
 ·rw [if_pos rfl]
  exact ris_atanAt_none x noneQ c1 noneQ_eq.1 noneQ_eq.2 w
 ·rw [if_neg (none_not S)]
  exact ris_atanAt_some x c _ _ _ c1 (some_ne hc.1 S) (fun w=>cAtanAt hc.1 S.nl w) (fun w=>cAtanAt hc.2 S.nh w) (fun w=>cMake (atanAtQ_W2 hc.1).1 (atanAtQ_W2 hc.2).2 w) w
theorem atanQ_W2 {x:Nat×Nat} (hx:W2 x):W2 (atanQ x):=risQ_W2 (fun _ hv=>atanAtQ_W2 hv) hx
set_option maxHeartbeats 1000000 in
theorem logn_core (x o a b q p u z d s:Nat×Nat) (c1:∀w,Calls Tryz.prog 55 #[.float .f64 4607182418800017408] w fun e w'=>e=.returned (.agg #[.float .f64 o.1,.float .f64 o.2])/\Below w.heap.size w w') (c2:∀w,Calls Tryz.prog 56 #[.agg #[.float .f64 x.1,.float .f64 x.2],.agg #[.float .f64 o.1,.float .f64 o.2]] w fun e w'=>e=.returned (.agg #[.float .f64 a.1,.float .f64 a.2])/\Below w.heap.size w w') (c3:∀w,Calls Tryz.prog 61 #[.agg #[.float .f64 x.1,.float .f64 x.2],.agg #[.float .f64 o.1,.float .f64 o.2]] w fun e w'=>e=.returned (.agg #[.float .f64 b.1,.float .f64 b.2])/\Below w.heap.size w w') (c4:∀w,Calls Tryz.prog 50 #[.agg #[.float .f64 a.1,.float .f64 a.2],.agg #[.float .f64 b.1,.float .f64 b.2]] w fun e w'=>e=.returned (.agg #[.float .f64 q.1,.float .f64 q.2])/\Below w.heap.size w w') (c5:∀w,Calls Tryz.prog 55 #[.float .f64 4611686018427387904] w fun e w'=>e=.returned (.agg #[.float .f64 p.1,.float .f64 p.2])/\Below w.heap.size w w') (c6:∀w,Calls Tryz.prog 54 #[.agg #[.float .f64 p.1,.float .f64 p.2],.agg #[.float .f64 q.1,.float .f64 q.2]] w fun e w'=>e=.returned (.agg #[.float .f64 u.1,.float .f64 u.2])/\Below w.heap.size w w') (c7:∀w,Calls Tryz.prog 206 #[.agg #[.float .f64 q.1,.float .f64 q.2]] w fun e w'=>e=.returned (.agg #[.float .f64 z.1,.float .f64 z.2])/\Below w.heap.size w w') (c8:∀w,Calls Tryz.prog 291 #[.agg #[.float .f64 z.1,.float .f64 z.2]] w fun e w'=>e=.returned (.agg #[.float .f64 d.1,.float .f64 d.2])/\Below w.heap.size w w') (c9:∀w,Calls Tryz.prog 54 #[.agg #[.float .f64 u.1,.float .f64 u.2],.agg #[.float .f64 d.1,.float .f64 d.2]] w fun e w'=>e=.returned (.agg #[.float .f64 s.1,.float .f64 s.2])/\Below w.heap.size w w') (w:World):Calls Tryz.prog 271 #[.agg #[.float .f64 x.1,.float .f64 x.2]] w fun e w'=>e=.returned (.agg #[.float .f64 s.1,.float .f64 s.2])/\Below w.heap.size w w':=by
 obtain⟨X,R,HB⟩:=enter1 w (.float .f64 x.1) (.float .f64 x.2) 24
 go_enter Tryz.func271,Tryz.ntmps271
 go_upto_region 2 with (go_at_call 55;with_reducible refine (c1 _).mono ?_;rintro _ VV ⟨rfl,hb1⟩;replace X:=X.keep hb1;replace R:=R.keep hb1;replace HB:=later HB hb1;clear hb1)
 have D:Has2 (VV.alloc (.cells #[.float .f64 o.1,.float .f64 o.2] 24)) VV.heap.size (.float .f64 o.1) (.float .f64 o.2):=has2_new _ _ _ _
 have hb1:Below VV.heap.size VV (VV.alloc (.cells #[.float .f64 o.1,.float .f64 o.2] 24)):=by go_grown
 replace X:=X.keep hb1;replace R:=R.keep hb1;replace HB:=later HB hb1;clear hb1
 clear c1
 generalize VV.alloc (.cells #[.float .f64 o.1,.float .f64 o.2] 24)=V2 at *
 generalize VV.heap.size=e at *
 apply tail_alloc1 7 (by kernel_rfl) (by kernel_rfl) rfl
 ·intro W1 hW
  replace X:=X.keep hW
  replace D:=D.keep hW
  have kX0:=fun n:Behind W1=>n.cell X.1 X.2.2.2.2;have kX1:=fun n:Behind W1=>n.cell X.2.1 X.2.2.2.2;have kD0:=fun n:Behind W1=>n.cell D.1 D.2.2.2.2;have kD1:=fun n:Behind W1=>n.cell D.2.1 D.2.2.2.2
  simp only [List.take_succ_cons,List.take_zero]
  repeat (go_big_quiet_step (first | (go_at_call 56;with_reducible refine Behind.call (c2 _)) | (go_at_call 61;with_reducible refine Behind.call (c3 _)) | (go_at_call 50;with_reducible refine Behind.call (c4 _))))
  exact wpQuiet_nil rfl
 intro b W hbb B hb1
 have sR:=R.lt
 have sHB:=HB.size
 replace R:=R.keep hb1;replace HB:=later HB hb1;clear hb1
 have E:=B.put (.float .f64 q.1) (.float .f64 q.2)
 replace R:=R.far2 (c:=b) (by omega) (.float .f64 q.1) (.float .f64 q.2)
 replace HB:Below w.heap.size w ((W.setCell ⟨b,0,none⟩ (.float .f64 q.1)).setCell ⟨b,1,none⟩ (.float .f64 q.2)):=(HB.setCell (by simp;omega) _).setCell (by simp;omega) _
 obtain⟨bb0,bb1,bb2,bb3,bb4⟩:=id B
 simp only [List.drop_succ_cons,List.drop_zero,Act.put,List.setIfInBounds_toArray,List.set_cons_succ,List.set_cons_zero]
 go_upto_region 3 with fail
 clear bb0 bb1 bb2 bb3 bb4 B hbb sR sHB
 generalize ((W.setCell ⟨b,0,none⟩ (.float .f64 q.1)).setCell ⟨b,1,none⟩ (.float .f64 q.2))=V3 at *
 generalize b=bE at *
 have kE0:=fun n:Behind V3=>n.cell E.1 E.2.2.2.2;have kE1:=fun n:Behind V3=>n.cell E.2.1 E.2.2.2.2
 refine tail_behind 7 (by kernel_rfl) (by kernel_rfl) ?_
 simp only [List.take_succ_cons,List.take_zero,List.drop_succ_cons,List.drop_zero]
 repeat (go_big_quiet_step (first | (go_at_call 55;with_reducible refine Behind.call (c5 _)) | (go_at_call 54;with_reducible refine Behind.call (c6 _)) | (go_at_call 206;with_reducible refine Behind.call (c7 _)) | (go_at_call 291;with_reducible refine Behind.call (c8 _)) | (go_at_call 54;with_reducible refine Behind.call (c9 _))))
 refine wpQuiet_nil ?_
 rintro _ ⟨m',rfl⟩
 obtain⟨W,hb1⟩:=m'
 dsimp only
 clear kE0 kE1
 replace R:=R.keep hb1;replace HB:=later HB hb1;clear hb1
 obtain⟨k0,k1,k2,k3,k4⟩:=id R
 go_wp2_with fail
 refine bodyPost_ret (v:=.agg #[.float .f64 s.1,.float .f64 s.2]) (by simp [results,Tryz.results271,go_sem, *]) rfl ⟨rfl, ?_⟩;repeat' (first | (with_reducible exact HB) | (with_reducible refine Below.setCell ?_ ?_ _) | go_size)
def logSQ (x:Nat×Nat):Nat×Nat:=divQ (subQ x (ptQ 4607182418800017408)) (addQ x (ptQ 4607182418800017408))
def lognQ (x:Nat×Nat):Nat×Nat:=mulQ (mulQ (ptQ 4611686018427387904) (logSQ x)) (oddE (sqrQ (logSQ x)).1 (sqrQ (logSQ x)).2)
theorem logSQ_W2 {x:Nat×Nat} (hx:W2 x):W2 (logSQ x):=divQ_W2 (subQ_W2 hx (ptQ_W2 (by omega))) (addQ_W2 hx (ptQ_W2 (by omega)))
theorem lognQ_W2 {x:Nat×Nat} (hx:W2 x):W2 (lognQ x):=mulQ_W2 (mulQ_W2 (ptQ_W2 (by omega)) (logSQ_W2 hx)) (oddE_W2 (sqrQ_W2 (logSQ_W2 hx)))
theorem cLogn {x:Nat×Nat} (hx:W2 x) (w:World):Calls Tryz.prog 271 #[.agg #[.float .f64 x.1,.float .f64 x.2]] w fun e w'=>e=.returned (.agg #[.float .f64 (lognQ x).1,.float .f64 (lognQ x).2])/\Below w.heap.size w w':=by
 have o:=ptQ_W2 (a:=4607182418800017408) (by omega)
 have p:=ptQ_W2 (a:=4611686018427387904) (by omega)
 have q:=logSQ_W2 hx
 exact logn_core x _ _ _ _ _ _ _ _ _ (fun w=>cPoint (by omega) w) (fun w=>cSub hx o w) (fun w=>cAdd hx o w) (fun w=>cDiv (subQ_W2 hx o) (addQ_W2 hx o) w) (fun w=>cPoint (by omega) w) (fun w=>cMul p q w) (fun w=>cSqr q w) (fun w=>cOdds (sqrQ_W2 q) w) (fun w=>cMul (mulQ_W2 p q) (oddE_W2 (sqrQ_W2 q)) w) w
theorem mul_some (x y:Nat) (hx:x%9223372036854775808<9218868437227405312) (hy:y%9223372036854775808<9218868437227405312):∃r,Ieee.double.mul x y=some r/\r<18446744073709551616:=by
 have hb:Ieee.double.binade=4503599627370496:=by decide
 have hi:Ieee.double.infRung=9218868437227405312:=by decide
 have hs:Ieee.double.signWeight=9223372036854775808:=by decide
 have rd:∀z:Nat,z%9223372036854775808<9218868437227405312->∃s m i,Ieee.double.read z=.number s m i:=by
  intro z hz
  unfold Ieee.Format.read
  simp only [hs,hb,hi]
  generalize z%9223372036854775808=r at *
  by_cases c:r<4503599627370496
  ·rw [if_pos c]
   exact⟨_,_,_,rfl⟩
  ·rw [if_neg c,if_pos (by omega)]
   exact⟨_,_,_,rfl⟩
 obtain⟨s,m,i,e1⟩:=rd x hx
 obtain⟨t,n,j,e2⟩:=rd y hy
 have ex:∃r,Ieee.double.mul x y=some r:=by
  unfold Ieee.Format.mul
  rw [e1,e2]
  exact⟨_,rfl⟩
 obtain⟨r,hr⟩:=ex
 refine⟨r,hr, ?_⟩
 have e:∃d,r=Ieee.double.write d:=by
  unfold Ieee.Format.mul at hr
  obtain⟨d, -,hd⟩:=Option.map_eq_some_iff.1 hr
  exact⟨d,hd.symm⟩
 obtain⟨d,rfl⟩:=e
 exact Ieee.double.write_lt d
def nrmW (v:Nat):Nat:=if v<4503599627370496 then (Ieee.double.mul v 4841369599423283200).getD 0 else v
def nrmE (v:Nat):Int:=if v<4503599627370496 then -52 else 0
theorem nrmW_lt {v:Nat} (hv:v<18446744073709551616):nrmW v<18446744073709551616:=by
 unfold nrmW
 split
 ·rename_i h
  obtain⟨r,e,l⟩:=mul_some v 4841369599423283200 (by omega) (by omega)
  rw [e]
  exact l
 ·exact hv
theorem normz_w (v:Nat) (hv:v<9218868437227405312) (w:World):Calls Tryz.prog 295 #[.float .f64 v] w fun e w'=>e=.returned (.tuple #[.float .f64 (nrmW v),.int .i64 (nrmE v)])/\w=w':=by
 have ca:=fun w=>abs_w v (by omega) w
 have em:v%9223372036854775808=v:=Nat.mod_eq_of_lt (by omega)
 rw [em] at ca
 have o:=o_lt (a:=v) (b:=4503599627370496) (by omega) (by omega)
 unfold nrmW nrmE
 by_cases h:v<4503599627370496
 ·rw [if_pos h,if_pos h]
  obtain⟨r,e,l⟩:=mul_some v 4841369599423283200 (by omega) (by omega)
  rw [e]
  have lb:ltB v 4503599627370496=true:=by
   unfold ltB nanB key
   simp only [Bool.and_eq_true,Bool.not_eq_true',decide_eq_false_iff_not,decide_eq_true_eq]
   rw [if_pos (by omega),if_pos (by omega)]
   omega
  rw [lb] at o
  have hm:∀w,(binOp .mul 22 (.float .f64 v) (.float .f64 4841369599423283200)).run Tryz.prog w=.ok (.float .f64 r) w:=fun w=>run_float_arith w .mul 22 .f64 _ _ r e
  clear lb e l
  show Calls _ _ _ _ fun e w'=>e=.returned (.tuple #[.float .f64 r,.int .i64 (-52)])/\w=w'
  go_enter Tryz.func295,Tryz.ntmps295
  go_wp2_with (go_at_call 158;refine (ca _).mono ?_;rintro _ w1 ⟨rfl,rfl⟩)
  refine bodyPost_ret (v:=.tuple #[.float .f64 r,.int .i64 (-52)]) (by simp [results,Tryz.results295,go_sem]) rfl ⟨rfl,rfl⟩
 ·rw [if_neg h,if_neg h]
  have lb:ltB v 4503599627370496=false:=by
   unfold ltB nanB key
   rw [if_pos (by omega),if_pos (by omega),Bool.and_eq_false_iff]
   exact Or.inr (decide_eq_false (by omega))
  rw [lb] at o
  clear lb
  go_enter Tryz.func295,Tryz.ntmps295
  go_wp2_with (go_at_call 158;refine (ca _).mono ?_;rintro _ w1 ⟨rfl,rfl⟩)
  refine bodyPost_ret (v:=.tuple #[.float .f64 v,.int .i64 0]) (by simp [results,Tryz.results295,go_sem]) rfl ⟨rfl,rfl⟩
def frW (r:Nat):Nat:=(r &&& 9227875636482146303) ||| 4602678819172646912
def frE (v:Nat):Int:=nrmE v+(((nrmW v/4503599627370496%2048:Nat):Int)-1023+1)
theorem frW_facts (r:Nat):frW r<18446744073709551616/\frW r%9223372036854775808<9218868437227405312:=by
 have l:frW r<2^64:=by
  unfold frW
  refine Nat.or_lt_two_pow ?_ (by decide)
  exact Nat.lt_of_le_of_lt Nat.and_le_right (by decide)
 have b:(frW r).testBit 52=false:=by
  unfold frW
  rw [Nat.testBit_or,Nat.testBit_and,show Nat.testBit 9227875636482146303 52=false by decide,show Nat.testBit 4602678819172646912 52=false by decide]
  simp
 rw [Nat.testBit_eq_decide_div_mod_eq] at b
 have e:(2:Nat)^52=4503599627370496:=by decide
 rw [e] at b
 have b2:¬frW r/4503599627370496%2=1:=by simpa using b
 have l2:frW r<18446744073709551616:=l
 clear b l
 generalize frW r=f at *
 exact⟨l2,by omega⟩
set_option maxHeartbeats 1000000 in
theorem frexp_core (v r:Nat) (n e1 e2:Int) (y z:Nat) (o1:(FloatKind.f64.format.order v 0==some .eq)=false) (c1:∀w,Calls Tryz.prog 176 #[.float .f64 v,.int .i64 0] w fun e w'=>e=.returned (.bool false)/\w=w') (c2:∀w,Calls Tryz.prog 166 #[.float .f64 v] w fun e w'=>e=.returned (.bool false)/\w=w')
  (c3:∀w,Calls Tryz.prog 295 #[.float .f64 v] w fun e w'=>e=.returned (.tuple #[.float .f64 r,.int .i64 n])/\w=w') (_:r<18446744073709551616) (hn:-100<=n/\n<=100) (h1:bits .and .u64 ((r:Int)/4503599627370496) 2047=e1) (he:0<=e1/\e1<=2047)
  (h2:bits .andNot .u64 (r:Int) 9218868437227405312=(y:Int)) (h3:bits .or .u64 (y:Int) 4602678819172646912=(z:Int)) (h4:n+(e1-1023+1)=e2) (w:World) :
  Calls Tryz.prog 290 #[.float .f64 v] w fun e w'=>e=.returned (.tuple #[.float .f64 z,.int .i64 e2])/\w=w':=by
 go_enter Tryz.func290,Tryz.ntmps290
 go_wp2_with (first
  | (go_at_call 176;refine (c1 _).mono ?_;rintro _ w1 ⟨rfl,rfl⟩)
  | (go_at_call 166;refine (c2 _).mono ?_;rintro _ w1 ⟨rfl,rfl⟩)
  | (go_at_call 295;refine (c3 _).mono ?_;rintro _ w1 ⟨rfl,rfl⟩))
 refine bodyPost_ret (v:=.tuple #[.float .f64 z,.int .i64 e2]) (by simp [results,Tryz.results290,go_sem]) rfl ⟨rfl,rfl⟩
theorem cFrexp0 {v:Nat} (h0:0<v) (hv:v<9218868437227405312) (w:World):Calls Tryz.prog 290 #[.float .f64 v] w fun e w'=>e=.returned (.tuple #[.float .f64 (frW (nrmW v)),.int .i64 (frE v)])/\w=w':=by
 have hv':v<18446744073709551616:=by omega
 have hr:=nrmW_lt hv'
 have o1:=o_eq hv' (show 0<18446744073709551616 by omega)
 have e0:eqB v 0=false:=by
  unfold eqB key
  rw [if_pos (by omega),if_pos (by omega),Bool.and_eq_false_iff]
  exact Or.inr (decide_eq_false (by omega))
 rw [e0] at o1
 have c1:=fun w=>isInf0_w v hv' w
 have ei:infB v=false:=by unfold infB;exact decide_eq_false (by omega)
 rw [ei] at c1
 have c2:=fun w=>isNaN_w v hv' w
 have en:nanB v=false:=by unfold nanB;exact decide_eq_false (by omega)
 rw [en] at c2
 have g3:bits .and .u64 ((nrmW v:Int)/4503599627370496) 2047=((nrmW v/4503599627370496%2048:Nat):Int):=by
  generalize nrmW v=x at *
  rw [show (x:Int)/4503599627370496=((x/4503599627370496:Nat):Int) by omega,show (2047:Int)=((2047:Nat):Int) from rfl,u64_and_nat _ _ (by omega) (by decide),nat_mask11]
 have g4:bits .andNot .u64 (nrmW v:Int) 9218868437227405312=((nrmW v &&& 9227875636482146303:Nat):Int):=by
  generalize nrmW v=x at *
  rw [show (9218868437227405312:Int)=((9218868437227405312:Nat):Int) from rfl,u64_andNot_nat x _ hr (by decide)]
 have hand:(nrmW v &&& 9227875636482146303)<18446744073709551616:=Nat.lt_of_le_of_lt Nat.and_le_right (by decide)
 have g5:bits .or .u64 ((nrmW v &&& 9227875636482146303:Nat):Int) 4602678819172646912=((frW (nrmW v):Nat):Int):=by
  unfold frW
  generalize nrmW v &&& 9227875636482146303=y at *
  rw [show (4602678819172646912:Int)=((4602678819172646912:Nat):Int) from rfl,u64_or_nat y _ hand (by decide)]
 have hn:-100<=nrmE v/\nrmE v<=100:=by unfold nrmE;split <;> omega
 exact frexp_core v (nrmW v) (nrmE v) _ _ _ _ o1 c1 c2 (fun w=>normz_w v hv w) hr hn g3 (by omega) g4 g5 rfl w
set_option maxHeartbeats 1000000 in
theorem Frexp_core (v z:Nat) (k:Int) (c1:∀w,Calls Tryz.prog 290 #[.float .f64 v] w fun e w'=>e=.returned (.tuple #[.float .f64 z,.int .i64 k])/\w=w') (w:World):Calls Tryz.prog 269 #[.float .f64 v] w fun e w'=>e=.returned (.tuple #[.float .f64 z,.int .i64 k])/\w=w':=by
 go_enter Tryz.func269,Tryz.ntmps269
 go_wp2_with (go_at_call 290;refine (c1 _).mono ?_;rintro _ w1 ⟨rfl,rfl⟩)
 refine bodyPost_ret (v:=.tuple #[.float .f64 z,.int .i64 k]) (by simp [results,Tryz.results269,go_sem]) rfl ⟨rfl,rfl⟩
set_option maxHeartbeats 1000000 in
theorem logAt_all (v:Nat) (b:Bool) (o1:(FloatKind.f64.format.order v 0==some .eq)=b) (c1:b=false->∀w,Calls Tryz.prog 176 #[.float .f64 v,.int .i64 1] w fun e w'=>e=.returned (.bool true)/\w=w') (w:World):Calls Tryz.prog 240 #[.float .f64 v] w fun e w'=>e=.returned (.agg #[.float .f64 allQ.1,.float .f64 allQ.2])/\Below w.heap.size w w':=by
 have R:Has2 (w.alloc (.cells #[.float .f64 0,.float .f64 0] 24)) w.heap.size (.float .f64 0) (.float .f64 0):=has2_new _ _ _ _
 have HB:Below w.heap.size w (w.alloc (.cells #[.float .f64 0,.float .f64 0] 24)):=by go_grown
 cases b
 ·replace c1:=c1 rfl
  go_enter Tryz.func240,Tryz.ntmps240
  go_wp2_with (first
   | (go_at_call 176;refine (c1 _).mono ?_;rintro _ w1 ⟨rfl,rfl⟩)
   | (go_at_call 106;refine (whole_w _).mono ?_;rintro _ V1 ⟨rfl,hb1⟩;replace R:=R.keep hb1;replace HB:=later HB hb1;clear hb1;obtain⟨k0,k1,k2,k3,k4⟩:=id R))
  refine bodyPost_ret (v:=.agg #[.float .f64 (infI (-1)),.float .f64 (infI 1)]) (by simp [results,Tryz.results240,go_sem, *]) rfl ⟨rfl, ?_⟩
  repeat' (first | (with_reducible exact HB) | (with_reducible refine Below.setCell ?_ ?_ _) | go_size)
 ·clear c1
  go_enter Tryz.func240,Tryz.ntmps240
  go_wp2_with (go_at_call 106;refine (whole_w _).mono ?_;rintro _ V1 ⟨rfl,hb1⟩;replace R:=R.keep hb1;replace HB:=later HB hb1;clear hb1;obtain⟨k0,k1,k2,k3,k4⟩:=id R)
  refine bodyPost_ret (v:=.agg #[.float .f64 (infI (-1)),.float .f64 (infI 1)]) (by simp [results,Tryz.results240,go_sem, *]) rfl ⟨rfl, ?_⟩
  repeat' (first | (with_reducible exact HB) | (with_reducible refine Below.setCell ?_ ?_ _) | go_size)
set_option maxHeartbeats 1000000 in
theorem logAt_mid (v z y f:Nat) (k l:Int) (b:Bool) (m p n s:Nat×Nat) (hk:-10000<=k/\k<=10000) (o1:(FloatKind.f64.format.order v 0==some .eq)=false) (c1:∀w,Calls Tryz.prog 176 #[.float .f64 v,.int .i64 1] w fun e w'=>e=.returned (.bool false)/\w=w')
  (c2:∀w,Calls Tryz.prog 269 #[.float .f64 v] w fun e w'=>e=.returned (.tuple #[.float .f64 z,.int .i64 k])/\w=w') (o2:(FloatKind.f64.format.order z 4604544271217802189==some .lt)=b) (hy:b=false->y=z) (hl:b=false->l=k)
  (hm:b=true->∀w,(binOp .mul 22 (.float .f64 4611686018427387904) (.float .f64 z)).run Tryz.prog w=.ok (.float .f64 y) w) (hl2:b=true->l=k-1)
  (c5:∀w,Calls Tryz.prog 101 #[] w fun e w'=>e=.returned (.agg #[.float .f64 f,.float .f64 m.1,.float .f64 m.2])/\Below w.heap.size w w') (c6:∀w,Calls Tryz.prog 55 #[.float .f64 y] w fun e w'=>e=.returned (.agg #[.float .f64 p.1,.float .f64 p.2])/\Below w.heap.size w w') (c7:∀w,Calls Tryz.prog 271 #[.agg #[.float .f64 p.1,.float .f64 p.2]] w fun e w'=>e=.returned (.agg #[.float .f64 n.1,.float .f64 n.2])/\Below w.heap.size w w') (c8:∀w,Calls Tryz.prog 270 #[.agg #[.float .f64 f,.float .f64 m.1,.float .f64 m.2],.agg #[.float .f64 n.1,.float .f64 n.2],.int .i64 l] w fun e w'=>e=.returned (.agg #[.float .f64 s.1,.float .f64 s.2])/\Below w.heap.size w w') (w:World):Calls Tryz.prog 240 #[.float .f64 v] w fun e w'=>e=.returned (.agg #[.float .f64 s.1,.float .f64 s.2])/\Below w.heap.size w w':=by
 have R:Has2 (w.alloc (.cells #[.float .f64 0,.float .f64 0] 24)) w.heap.size (.float .f64 0) (.float .f64 0):=has2_new _ _ _ _
 have HB:Below w.heap.size w (w.alloc (.cells #[.float .f64 0,.float .f64 0] 24)):=by go_grown
 cases b
 ·obtain rfl:=hy rfl
  obtain rfl:=hl rfl
  clear hy hl hl2 hm
  go_enter Tryz.func240,Tryz.ntmps240
  go_wp2_with (first
   | (go_at_call 176;refine (c1 _).mono ?_;rintro _ w1 ⟨rfl,rfl⟩)
   | (go_at_call 269;refine (c2 _).mono ?_;rintro _ w1 ⟨rfl,rfl⟩)
   | (go_at_call 101;with_reducible refine (c5 _).mono ?_;rintro _ VV ⟨rfl,hb1⟩;replace R:=R.keep hb1;replace HB:=later HB hb1;clear hb1) | (go_at_call 55;with_reducible refine (c6 _).mono ?_;rintro _ VV ⟨rfl,hb1⟩;replace R:=R.keep hb1;replace HB:=later HB hb1;clear hb1) | (go_at_call 271;with_reducible refine (c7 _).mono ?_;rintro _ VV ⟨rfl,hb1⟩;replace R:=R.keep hb1;replace HB:=later HB hb1;clear hb1)
   | (go_at_call 270;refine (c8 _).mono ?_;rintro _ V1 ⟨rfl,hb1⟩;replace R:=R.keep hb1;replace HB:=later HB hb1;clear hb1;obtain⟨k0,k1,k2,k3,k4⟩:=id R))
  refine bodyPost_ret (v:=.agg #[.float .f64 s.1,.float .f64 s.2]) (by simp [results,Tryz.results240,go_sem, *]) rfl ⟨rfl, ?_⟩;repeat' (first | (with_reducible exact HB) | (with_reducible refine Below.setCell ?_ ?_ _) | go_size)
 ·obtain rfl:=hl2 rfl
  clear hy hl hl2
  replace hm:=hm rfl
  go_enter Tryz.func240,Tryz.ntmps240
  go_wp2_with (first
   | (go_at_call 176;refine (c1 _).mono ?_;rintro _ w1 ⟨rfl,rfl⟩)
   | (go_at_call 269;refine (c2 _).mono ?_;rintro _ w1 ⟨rfl,rfl⟩)
   | (go_at_call 101;with_reducible refine (c5 _).mono ?_;rintro _ VV ⟨rfl,hb1⟩;replace R:=R.keep hb1;replace HB:=later HB hb1;clear hb1) | (go_at_call 55;with_reducible refine (c6 _).mono ?_;rintro _ VV ⟨rfl,hb1⟩;replace R:=R.keep hb1;replace HB:=later HB hb1;clear hb1) | (go_at_call 271;with_reducible refine (c7 _).mono ?_;rintro _ VV ⟨rfl,hb1⟩;replace R:=R.keep hb1;replace HB:=later HB hb1;clear hb1)
   | (go_at_call 270;refine (c8 _).mono ?_;rintro _ V1 ⟨rfl,hb1⟩;replace R:=R.keep hb1;replace HB:=later HB hb1;clear hb1;obtain⟨k0,k1,k2,k3,k4⟩:=id R))
  refine bodyPost_ret (v:=.agg #[.float .f64 s.1,.float .f64 s.2]) (by simp [results,Tryz.results240,go_sem, *]) rfl ⟨rfl, ?_⟩;repeat' (first | (with_reducible exact HB) | (with_reducible refine Below.setCell ?_ ?_ _) | go_size)
def puttoQ (f:Nat) (r x:Nat×Nat) (k:Int):Nat×Nat:=addQ (addQ x (mulQ (wholeQ k) r)) (mulQ (wholeQ k) (ptQ f))
theorem puttoQ_W2 {f:Nat} {r x:Nat×Nat} {k:Int} (hf:f<18446744073709551616) (hr:W2 r) (hx:W2 x):W2 (puttoQ f r x k):=addQ_W2 (addQ_W2 hx (mulQ_W2 (wholeQ_W2 k) hr)) (mulQ_W2 (wholeQ_W2 k) (ptQ_W2 hf))
theorem cPutto {f:Nat} {r x:Nat×Nat} (k:Int) (hf:f<18446744073709551616) (hr:W2 r) (hx:W2 x) (w:World):Calls Tryz.prog 270 #[.agg #[.float .f64 f,.float .f64 r.1,.float .f64 r.2],.agg #[.float .f64 x.1,.float .f64 x.2],.int .i64 k] w fun e w'=>e=.returned (.agg #[.float .f64 (puttoQ f r x k).1,.float .f64 (puttoQ f r x k).2])/\Below w.heap.size w w' :=
 putto_core x f k r _ _ _ _ _ _ (fun w=>cWhole k w) (fun w=>cMul (wholeQ_W2 k) hr w) (fun w=>cAdd hx (mulQ_W2 (wholeQ_W2 k) hr) w) (fun w=>cPoint hf w) (fun w=>cMul (wholeQ_W2 k) (ptQ_W2 hf) w) (fun w=>cAdd (addQ_W2 hx (mulQ_W2 (wholeQ_W2 k) hr)) (mulQ_W2 (wholeQ_W2 k) (ptQ_W2 hf)) w) w
def logF (v:Nat):Nat:=if ltB (frW (nrmW v)) 4604544271217802189 then (Ieee.double.mul 4611686018427387904 (frW (nrmW v))).getD 0 else frW (nrmW v)
def logK (v:Nat):Int:=if ltB (frW (nrmW v)) 4604544271217802189 then frE v-1 else frE v
def logAtQ (v:Nat):Nat×Nat:=if eqB v 0 || decide (v=9218868437227405312) then allQ else puttoQ 4604418534313439232 restLnQ (lognQ (ptQ (logF v))) (logK v)
theorem logF_lt (v:Nat):logF v<18446744073709551616:=by
 have h:=frW_facts (nrmW v)
 unfold logF
 split
 ·obtain⟨r,e,l⟩:=mul_some 4611686018427387904 (frW (nrmW v)) (by omega) h.2
  rw [e]
  exact l
 ·exact h.1
theorem logAtQ_W2 (v:Nat):W2 (logAtQ v):=by
 unfold logAtQ
 split
 ·exact allQ_W2
 ·exact puttoQ_W2 (by omega) restLnQ_W2 (lognQ_W2 (ptQ_W2 (logF_lt v)))
theorem cLogAt {v:Nat} (hv:v<=9218868437227405312) (w:World):Calls Tryz.prog 240 #[.float .f64 v] w fun e w'=>e=.returned (.agg #[.float .f64 (logAtQ v).1,.float .f64 (logAtQ v).2])/\Below w.heap.size w w':=by
 have hv':v<18446744073709551616:=by omega
 have o1:=o_eq hv' (show 0<18446744073709551616 by omega)
 have ci:=fun w=>isInfP_w v hv' w
 unfold logAtQ
 cases he:eqB v 0 with
 | true =>
  rw [if_pos (by simp)]
  rw [he] at o1
  exact logAt_all v true o1 (fun h=>by cases h) w
 | false =>
  rw [he] at o1
  by_cases hi:v=9218868437227405312
  ·rw [decide_eq_true hi] at ci
   rw [if_pos (by simp [hi])]
   exact logAt_all v false o1 (fun _=>ci) w
  ·rw [decide_eq_false hi] at ci
   rw [if_neg (by simp [hi])]
   have h0:0<v:=by
    rcases Nat.eq_zero_or_pos v with c | c
    ·subst c
     revert he
     decide
    ·exact c
   have hf:=frW_facts (nrmW v)
   have o2:=o_lt hf.1 (show 4604544271217802189<18446744073709551616 by omega)
   obtain⟨r,e,l⟩:=mul_some 4611686018427387904 (frW (nrmW v)) (by omega) hf.2
   have hm:∀w,(binOp .mul 22 (.float .f64 4611686018427387904) (.float .f64 (frW (nrmW v)))).run Tryz.prog w=.ok (.float .f64 r) w:=fun w=>run_float_arith w .mul 22 .f64 _ _ r e
   have hk:-10000<=frE v/\frE v<=10000:=by
    unfold frE nrmE
    generalize nrmW v=x
    split <;> omega
   have c2:=fun w=>Frexp_core v _ _ (fun w=>cFrexp0 h0 (by omega) w) w
   have hL:=logF_lt v
   unfold logF logK at *
   rw [e] at *
   generalize frW (nrmW v)=z at *
   generalize frE v=k at *
   cases hb:ltB z 4604544271217802189 with
   | true =>
    rw [hb] at o2 hL
    simp only [if_true,Option.getD_some] at *
    exact logAt_mid v z r _ k (k-1) true _ _ _ _ hk o1 ci c2 o2 (fun h=>by cases h) (fun h=>by cases h) (fun _=>hm) (fun _=>rfl) (fun w=>cFineLn w) (fun w=>cPoint hL w) (fun w=>cLogn (ptQ_W2 hL) w) (fun w=>cPutto _ (by omega) restLnQ_W2 (lognQ_W2 (ptQ_W2 hL)) w) w
   | false =>
    rw [hb] at o2 hL
    simp only [Bool.false_eq_true,if_false] at *
    exact logAt_mid v z z _ k k false _ _ _ _ hk o1 ci c2 o2 (fun _=>rfl) (fun _=>rfl) (fun h=>by cases h) (fun h=>by cases h) (fun w=>cFineLn w) (fun w=>cPoint hL w) (fun w=>cLogn (ptQ_W2 hL) w) (fun w=>cPutto _ (by omega) restLnQ_W2 (lognQ_W2 (ptQ_W2 hL)) w) w
theorem meet_lo {x y:Nat×Nat} (S:Some2 (meetQ x y).1 (meetQ x y).2):key x.1<=key (meetQ x y).1/\key y.1<=key (meetQ x y).1:=by
 have e:meetQ x y=(pz (maxW x.1 y.1),pz (minW x.2 y.2)):=by
  have n:=none_not S
  revert n
  unfold meetQ meetP makeP noneQ
  split
  ·split
   ·intro _;rfl
   ·intro n;exact absurd rfl n
  ·intro n;exact absurd rfl n
 rw [e]
 show key x.1<=key (pz (maxW x.1 y.1))/\key y.1<=key (pz (maxW x.1 y.1))
 rw [key_pz,(maxW_key x.1 y.1).1]
 generalize key x.1=a
 generalize key y.1=b
 omega
theorem nneg_word {x:Nat} (hx:x<18446744073709551616) (n:nanB x=false) (z:x≠9223372036854775808) (k:0<=key x):x<=9218868437227405312:=by
 unfold nanB at n
 unfold key at k
 simp only [decide_eq_false_iff_not] at n
 split at k <;> omega
def posQ:Nat×Nat:=mkQ 0 (infI 1)
theorem posQ_W2:W2 posQ:=mkQ_W2 (by omega) (infI_lt 1)
theorem posQ_key:key posQ.1=0:=by decide +kernel
def logQ (x:Nat×Nat):Nat×Nat:=if leB (meetQ x posQ).2 0 then noneQ else risQ logAtQ (meetQ x posQ)
theorem cLog {x:Nat×Nat} (hx:W2 x) (w:World):Calls Tryz.prog 191 #[.agg #[.float .f64 x.1,.float .f64 x.2]] w fun e w'=>e=.returned (.agg #[.float .f64 (logQ x).1,.float .f64 (logQ x).2])/\Below w.heap.size w w':=by
 have hc:=meetQ_W2 hx posQ_W2
 have c1:=fun w=>inf_w 1 w
 have c2:=fun w=>cMake (a:=0) (b:=infI 1) (by omega) (infI_lt 1) w
 have c3:=fun w=>cMeet hx posQ_W2 w
 have ways:=meet_ways x posQ
 have lo:=meet_lo (x:=x) (y:=posQ)
 have o:=o_le hc.2 (show 0<18446744073709551616 by omega)
 unfold logQ
 generalize meetQ x posQ=c at *
 cases h:leB c.2 0 with
 | true =>
  rw [if_pos rfl]
  rw [h] at o
  exact log_none x _ c c1 c2 c3 o w
 | false =>
  rw [if_neg (by simp)]
  rw [h] at o
  rcases ways with rfl | S
  ·exfalso
   revert h
   decide
  ·have k0:=(lo S).2
   rw [posQ_key] at k0
   refine log_ris x _ c _ c1 c2 c3 o (fun w=>?_) w
   have hc':=cntQ_W2 hc
   have d1:=fun w=>cCnt hc w
   have ways':=meet_ways c allQ
   have lo':=meet_lo (x:=c) (y:=allQ)
   have ec:meetQ c allQ=cntQ c:=rfl
   rw [ec] at ways' lo'
   unfold risQ
   generalize cntQ c=d at *
   rcases ways' with rfl | S'
   ·rw [if_pos rfl]
    exact ris_logAt_none c noneQ d1 noneQ_eq.1 noneQ_eq.2 w
   ·rw [if_neg (none_not S')]
    have k1:=(lo' S').1
    have k2:=S'.le
    exact ris_logAt_some c d _ _ _ d1 (some_ne hc'.1 S') (fun w=>cLogAt (nneg_word hc'.1 S'.nl S'.zl (by omega)) w) (fun w=>cLogAt (nneg_word hc'.2 S'.nh S'.zh (by omega)) w) (fun w=>cMake (logAtQ_W2 _).1 (logAtQ_W2 _).2 w) w
theorem logQ_W2 {x:Nat×Nat} (hx:W2 x):W2 (logQ x):=by
 unfold logQ
 split
 ·exact noneQ_W2
 ·exact risQ_W2 (fun v _=>logAtQ_W2 v) (meetQ_W2 hx posQ_W2)
end Go.Proofs.YtopfabemfbdccaaGreat
