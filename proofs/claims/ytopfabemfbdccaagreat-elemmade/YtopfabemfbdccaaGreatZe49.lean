/- Exp as a function of words. What elem makes of the others: Tan, Sinh, Cosh, Tanh. The walks of the reference's Next and Prev, of the program's Prev, and of the statement UlpNeighbours. ElemMade: what its callees answer, and the whole walk. An interval as an argument: opened and shut. ElemMade: for every interval pi and the logarithm of 2 are told by neighbours that hold the exact ones, and Tan, Sinh, Cosh and Tanh are made of Sin, Cos and Exp just as the document says -/
import Derived.Test.YtopfabemfbdccaaGreatZe48
import Derived.Test.YtopfabemfbdccaaGreatZe47
import Derived.Test.YtopfabemfbdccaaGreatZe07
import Derived.Test.YtopfabemfbdccaaGreatZe44
import Derived.Test.YtopfabemfbdccaaGreatZe45
import Derived.Test.YtopfabemfbdccaaGreatZe32
import Derived.Test.YtopfabemfbdccaaGreatZe34
import Derived.Test.YtopfabemfbdccaaGreatZe36
import Derived.Test.YtopfabemfbdccaaGreatZe19
import Derived.ChangeSame
import Derived.JoinedOf
import Derived.JoinedAt
import Derived.RowKit3
namespace Go.Proofs.YtopfabemfbdccaaGreat
open Go.ChangeShapes Go.WideShapes Go.ChangeAt Go.RowKit
set_option maxHeartbeats 1000000 in
theorem exp_hi (v:Nat) (s:Nat×Nat) (o1:(FloatKind.f64.format.order v 4649456441864749056==some .gt)=true) (c1:∀w,Calls Tryz.prog 97 #[.int .i64 1] w fun e w'=>e=.returned (.float .f64 (infI 1))∧w=w') (c2:∀w,Calls Tryz.prog 32 #[.float .f64 9218868437227405311,.float .f64 (infI 1)] w fun e w'=>e=.returned (.agg #[.float .f64 s.1,.float .f64 s.2])∧Below w.heap.size w w') (w:World):Calls Tryz.prog 48 #[.float .f64 v] w fun e w'=>e=.returned (.agg #[.float .f64 s.1,.float .f64 s.2])∧Below w.heap.size w w':=by
 have R:Has2 (w.alloc (.cells #[.float .f64 0,.float .f64 0] 24)) w.heap.size (.float .f64 0) (.float .f64 0):=has2_new _ _ _ _
 have HB:Below w.heap.size w (w.alloc (.cells #[.float .f64 0,.float .f64 0] 24)):=by go_grown
 go_enter Tryz.func48,Tryz.ntmps48
 go_wp2_with (first
   | (go_at_call 97;refine (c1 _).mono ?_;rintro _ V1 ⟨rfl,rfl⟩)
   | (go_at_call 32;refine (c2 _).mono ?_;rintro _ V1 ⟨rfl,hb1⟩;replace R:=R.keep hb1;replace HB:=later HB hb1;clear hb1;obtain⟨k0,k1,k2,k3,k4⟩:=id R))
 refine bodyPost_ret (v:=.agg #[.float .f64 s.1,.float .f64 s.2]) (by simp [results,Tryz.results48,go_sem, *]) rfl ⟨rfl, ?_⟩;repeat' (first | (with_reducible exact HB) | (with_reducible refine Below.setCell ?_ ?_ _) | go_size)
set_option maxHeartbeats 1000000 in
theorem exp_lo (v:Nat) (s:Nat×Nat) (o1:(FloatKind.f64.format.order v 4649456441864749056==some .gt)=false) (o2:(FloatKind.f64.format.order v 13873145138068324352==some .lt)=true) (c2:∀w,Calls Tryz.prog 32 #[.float .f64 0,.float .f64 1] w fun e w'=>e=.returned (.agg #[.float .f64 s.1,.float .f64 s.2])∧Below w.heap.size w w') (w:World):Calls Tryz.prog 48 #[.float .f64 v] w fun e w'=>e=.returned (.agg #[.float .f64 s.1,.float .f64 s.2])∧Below w.heap.size w w':=by
 have R:Has2 (w.alloc (.cells #[.float .f64 0,.float .f64 0] 24)) w.heap.size (.float .f64 0) (.float .f64 0):=has2_new _ _ _ _
 have HB:Below w.heap.size w (w.alloc (.cells #[.float .f64 0,.float .f64 0] 24)):=by go_grown
 go_enter Tryz.func48,Tryz.ntmps48
 go_wp2_with (go_at_call 32;refine (c2 _).mono ?_;rintro _ V1 ⟨rfl,hb1⟩;replace R:=R.keep hb1;replace HB:=later HB hb1;clear hb1;obtain⟨k0,k1,k2,k3,k4⟩:=id R)
 refine bodyPost_ret (v:=.agg #[.float .f64 s.1,.float .f64 s.2]) (by simp [results,Tryz.results48,go_sem, *]) rfl ⟨rfl, ?_⟩;repeat' (first | (with_reducible exact HB) | (with_reducible refine Below.setCell ?_ ?_ _) | go_size)
set_option maxHeartbeats 1000000 in
theorem exp_mid (v f:Nat) (k:Int) (p l q m r u s:Nat×Nat) (o1:(FloatKind.f64.format.order v 4649456441864749056==some .gt)=false) (o2:(FloatKind.f64.format.order v 13873145138068324352==some .lt)=false)
   (c1:∀w,Calls Tryz.prog 55 #[.float .f64 v] w fun e w'=>e=.returned (.agg #[.float .f64 p.1,.float .f64 p.2])∧Below w.heap.size w w') (c2:∀w,Calls Tryz.prog 7 #[] w fun e w'=>e=.returned (.agg #[.float .f64 l.1,.float .f64 l.2])∧Below w.heap.size w w') (c3:∀w,Calls Tryz.prog 50 #[.agg #[.float .f64 p.1,.float .f64 p.2],.agg #[.float .f64 l.1,.float .f64 l.2]] w fun e w'=>e=.returned (.agg #[.float .f64 q.1,.float .f64 q.2])∧Below w.heap.size w w') (c4:∀w,Calls Tryz.prog 98 #[.agg #[.float .f64 q.1,.float .f64 q.2]] w fun e w'=>e=.returned (.int .i64 k)∧Below w.heap.size w w') (c5:∀w,Calls Tryz.prog 101 #[] w fun e w'=>e=.returned (.agg #[.float .f64 f,.float .f64 m.1,.float .f64 m.2])∧Below w.heap.size w w') (c6:∀w,Calls Tryz.prog 102 #[.agg #[.float .f64 f,.float .f64 m.1,.float .f64 m.2],.float .f64 v,.int .i64 k] w fun e w'=>e=.returned (.agg #[.float .f64 r.1,.float .f64 r.2])∧Below w.heap.size w w')
   (c7:∀w,Calls Tryz.prog 100 #[.agg #[.float .f64 r.1,.float .f64 r.2]] w fun e w'=>e=.returned (.agg #[.float .f64 u.1,.float .f64 u.2])∧Below w.heap.size w w') (c8:∀w,Calls Tryz.prog 99 #[.agg #[.float .f64 u.1,.float .f64 u.2],.int .i64 k] w fun e w'=>e=.returned (.agg #[.float .f64 s.1,.float .f64 s.2])∧Below w.heap.size w w') (w:World):Calls Tryz.prog 48 #[.float .f64 v] w fun e w'=>e=.returned (.agg #[.float .f64 s.1,.float .f64 s.2])∧Below w.heap.size w w':=by
 have R:Has2 (w.alloc (.cells #[.float .f64 0,.float .f64 0] 24)) w.heap.size (.float .f64 0) (.float .f64 0):=has2_new _ _ _ _
 have HB:Below w.heap.size w (w.alloc (.cells #[.float .f64 0,.float .f64 0] 24)):=by go_grown
 go_enter Tryz.func48,Tryz.ntmps48
 go_wp2_with (first | (go_at_call 55;with_reducible refine (c1 _).mono ?_;rintro _ VV ⟨rfl,hb1⟩;replace R:=R.keep hb1;replace HB:=later HB hb1;clear hb1) | (go_at_call 7;with_reducible refine (c2 _).mono ?_;rintro _ VV ⟨rfl,hb1⟩;replace R:=R.keep hb1;replace HB:=later HB hb1;clear hb1) | (go_at_call 50;with_reducible refine (c3 _).mono ?_;rintro _ VV ⟨rfl,hb1⟩;replace R:=R.keep hb1;replace HB:=later HB hb1;clear hb1) | (go_at_call 98;with_reducible refine (c4 _).mono ?_;rintro _ VV ⟨rfl,hb1⟩;replace R:=R.keep hb1;replace HB:=later HB hb1;clear hb1) | (go_at_call 101;with_reducible refine (c5 _).mono ?_;rintro _ VV ⟨rfl,hb1⟩;replace R:=R.keep hb1;replace HB:=later HB hb1;clear hb1) | (go_at_call 102;with_reducible refine (c6 _).mono ?_;rintro _ VV ⟨rfl,hb1⟩;replace R:=R.keep hb1;replace HB:=later HB hb1;clear hb1) | (go_at_call 100;with_reducible refine (c7 _).mono ?_;rintro _ VV ⟨rfl,hb1⟩;replace R:=R.keep hb1;replace HB:=later HB hb1;clear hb1) | (go_at_call 99;refine (c8 _).mono ?_;rintro _ V1 ⟨rfl,hb1⟩;replace R:=R.keep hb1;replace HB:=later HB hb1;clear hb1;obtain⟨k0,k1,k2,k3,k4⟩:=id R))
 refine bodyPost_ret (v:=.agg #[.float .f64 s.1,.float .f64 s.2]) (by simp [results,Tryz.results48,go_sem, *]) rfl ⟨rfl, ?_⟩;repeat' (first | (with_reducible exact HB) | (with_reducible refine Below.setCell ?_ ?_ _) | go_size)
def ln2Q:Nat×Nat:=mkQ 4604418534313441775 4604418534313441776
def restLnQ:Nat×Nat:=mkQ 4419120210296499430 4419120210296499431
theorem ln2Q_W2:W2 ln2Q:=mkQ_W2 (by omega) (by omega)
theorem restLnQ_W2:W2 restLnQ:=mkQ_W2 (by omega) (by omega)
theorem cFineLn (w:World):Calls Tryz.prog 101 #[] w fun e w'=>e=.returned (.agg #[.float .f64 4604418534313439232,.float .f64 restLnQ.1,.float .f64 restLnQ.2])∧Below w.heap.size w w':=fineLn2_core _ (fun w=>cMake (by omega) (by omega) w) w
def expKI (v:Nat):Int:=nearI (divQ (ptQ v) ln2Q)
def expAtQ (v:Nat):Nat×Nat :=
 if ltB 4649456441864749056 v then mkQ 9218868437227405311 (infI 1) else if ltB v 13873145138068324352 then mkQ 0 1
 else scaledQ (pwsE (takenQ 4604418534313439232 restLnQ v (expKI v))) (expKI v)
theorem exp_some:Some2 13873145138068324352 4649456441864749056:=hs_iff.1 (by decide +kernel)
theorem ln2_some:Some2 ln2Q.1 ln2Q.2:=hs_iff.1 (by decide +kernel)
theorem exp_lo_key:-4832362400168542207≤key (divQ (13873145138068324352,4649456441864749056) ln2Q).1:=by decide +kernel
theorem exp_hi_key:key (divQ (13873145138068324352,4649456441864749056) ln2Q).2≤4832362400168542207:=by decide +kernel
theorem exp_key:key 13873145138068324352=-4649773101213548544∧key 4649456441864749056=4649456441864749056:=by decide
theorem near_exp {v:Nat} (hv:v<18446744073709551616) (nv:nanB v=false) (k1:-4649773101213548544≤key v) (k2:key v≤4649456441864749056):midQ (divQ (ptQ v) ln2Q)%9223372036854775808<4832362400168542208:=by
 have X:=pt_in hv nv (by omega) (by omega) exp_some (by omega) (by omega) (by rw [exp_key.1];exact k1) (by rw [exp_key.2];exact k2)
 have:=mid_bound (B:=4832362400168542207) (by omega) (divQ_W2 (ptQ_W2 hv) ln2Q_W2) (div_gr X (In.refl ln2Q_W2.1 ln2Q_W2.2 ln2_some)) exp_lo_key exp_hi_key
 omega
theorem cExpAt {v:Nat} (hv:v<18446744073709551616) (nv:nanB v=false) (w:World):Calls Tryz.prog 48 #[.float .f64 v] w fun e w'=>e=.returned (.agg #[.float .f64 (expAtQ v).1,.float .f64 (expAtQ v).2])∧Below w.heap.size w w':=by
 have o1:=o_gt hv (show 4649456441864749056<18446744073709551616 by omega)
 have o2:=o_lt hv (show 13873145138068324352<18446744073709551616 by omega)
 unfold expAtQ
 cases h1:ltB 4649456441864749056 v with
 | true =>
   rw [if_pos rfl]
   rw [h1] at o1
   exact exp_hi v _ o1 (fun w=>inf_w 1 w) (fun w=>cMake (by omega) (infI_lt 1) w) w
 | false =>
   rw [if_neg (by simp)]
   rw [h1] at o1
   cases h2:ltB v 13873145138068324352 with
   | true =>
     rw [if_pos rfl]
     rw [h2] at o2
     exact exp_lo v _ o1 o2 (fun w=>cMake (by omega) (by omega) w) w
   | false =>
     rw [if_neg (by simp)]
     rw [h2] at o2
     unfold ltB at h1 h2
     rw [nv,show nanB 4649456441864749056=false by decide,exp_key.2] at h1
     rw [nv,show nanB 13873145138068324352=false by decide,exp_key.1] at h2
     simp only [Bool.not_false,Bool.true_and,decide_eq_false_iff_not] at h1 h2
     have b:=near_exp hv nv (by omega) (by omega)
     have kr:=nearI_in b
     have hd:=divQ_W2 (ptQ_W2 hv) ln2Q_W2
     have ht:=takenQ_W2 (f:=4604418534313439232) (k:=expKI v) (by omega) hv restLnQ_W2
     exact exp_mid v _ (expKI v) _ _ _ _ _ _ _ o1 o2 (fun w=>cPoint hv w) (fun w=>cLn2 w) (fun w=>cDiv (ptQ_W2 hv) ln2Q_W2 w) (fun w=>cNear hd b w) (fun w=>cFineLn w) (fun w=>cTaken _ (by omega) hv restLnQ_W2 w) (fun w=>cPows ht w) (fun w=>cScaled (pwsE_W2 ht) _ (by unfold expKI;omega) w) w
theorem expAtQ_W2 {v:Nat} (hv:v<18446744073709551616):W2 (expAtQ v):=by
 unfold expAtQ
 split
 · exact mkQ_W2 (by omega) (infI_lt 1)
 · split
   · exact mkQ_W2 (by omega) (by omega)
   · exact scaledQ_W2 (pwsE_W2 (takenQ_W2 (by omega) hv restLnQ_W2)) _
def risQ (at_:Nat→Nat×Nat) (x:Nat×Nat):Nat×Nat:=if cntQ x=noneQ then noneQ else mkQ (at_ (cntQ x).1).1 (at_ (cntQ x).2).2
theorem risQ_W2 {at_:Nat→Nat×Nat} (h:∀v,v<18446744073709551616→W2 (at_ v)) {x:Nat×Nat} (hx:W2 x):W2 (risQ at_ x):=by
 have hc:=cntQ_W2 hx
 unfold risQ
 split
 · exact noneQ_W2
 · exact mkQ_W2 (h _ hc.1).1 (h _ hc.2).2
theorem none_not {c:Nat×Nat} (S:Some2 c.1 c.2):¬c=noneQ:=by
 rintro rfl
 have:=hs_iff.2 S
 rw [show hsB noneQ.1 noneQ.2=false from empty_some] at this
 cases this
def expQ (x:Nat×Nat):Nat×Nat:=risQ expAtQ x
theorem cExp {x:Nat×Nat} (hx:W2 x) (w:World):Calls Tryz.prog 13 #[.agg #[.float .f64 x.1,.float .f64 x.2]] w fun e w'=>e=.returned (.agg #[.float .f64 (expQ x).1,.float .f64 (expQ x).2])∧Below w.heap.size w w':=by
 refine exp_ris x _ (fun w=>?_) w
 have hc:=cntQ_W2 hx
 have c1:=fun w=>cCnt hx w
 have ways:=meet_ways x allQ
 have ec:meetQ x allQ=cntQ x:=rfl
 rw [ec] at ways
 unfold expQ risQ
 generalize cntQ x=c at *
 rcases ways with rfl | S
 · rw [if_pos rfl]
   exact ris_expAt_none x noneQ c1 noneQ_eq.1 noneQ_eq.2 w
 · rw [if_neg (none_not S)]
   exact ris_expAt_some x c _ _ _ c1 (some_ne hc.1 S) (fun w=>cExpAt hc.1 S.nl w) (fun w=>cExpAt hc.2 S.nh w) (fun w=>cMake (expAtQ_W2 hc.1).1 (expAtQ_W2 hc.2).2 w) w
theorem expQ_W2 {x:Nat×Nat} (hx:W2 x):W2 (expQ x):=risQ_W2 (fun _ hv=>expAtQ_W2 hv) hx
set_option maxHeartbeats 1000000 in
theorem tan_core (x s c d:Nat×Nat) (c1:∀w,Calls Tryz.prog 18 #[.agg #[.float .f64 x.1,.float .f64 x.2]] w fun e w'=>e=.returned (.agg #[.float .f64 s.1,.float .f64 s.2])∧Below w.heap.size w w') (c2:∀w,Calls Tryz.prog 19 #[.agg #[.float .f64 x.1,.float .f64 x.2]] w fun e w'=>e=.returned (.agg #[.float .f64 c.1,.float .f64 c.2])∧Below w.heap.size w w') (c3:∀w,Calls Tryz.prog 50 #[.agg #[.float .f64 s.1,.float .f64 s.2],.agg #[.float .f64 c.1,.float .f64 c.2]] w fun e w'=>e=.returned (.agg #[.float .f64 d.1,.float .f64 d.2])∧Below w.heap.size w w') (w:World):Calls Tryz.prog 16 #[.agg #[.float .f64 x.1,.float .f64 x.2]] w fun e w'=>e=.returned (.agg #[.float .f64 d.1,.float .f64 d.2])∧Below w.heap.size w w':=by
 obtain⟨X,R,HB⟩:=enter1 w (.float .f64 x.1) (.float .f64 x.2) 24
 go_enter Tryz.func16,Tryz.ntmps16
 go_upto_region 1 with fail
 generalize (w.alloc (.cells #[.float .f64 x.1,.float .f64 x.2] 24)).alloc (.cells #[.float .f64 0,.float .f64 0] 24)=V1 at *
 have kX0:=fun n:Behind V1=>n.cell X.1 X.2.2.2.2;have kX1:=fun n:Behind V1=>n.cell X.2.1 X.2.2.2.2
 refine tail_behind 5 (by kernel_rfl) (by kernel_rfl) ?_
 simp only [List.take_succ_cons,List.take_zero,List.drop_succ_cons,List.drop_zero]
 repeat (go_big_quiet_step (first | (go_at_call 18;with_reducible refine Behind.call (c1 _)) | (go_at_call 19;with_reducible refine Behind.call (c2 _)) | (go_at_call 50;with_reducible refine Behind.call (c3 _))))
 refine wpQuiet_nil ?_
 rintro _ ⟨m',rfl⟩
 obtain⟨W,hb1⟩:=m'
 dsimp only
 clear kX0 kX1
 replace R:=R.keep hb1;replace HB:=later HB hb1;clear hb1
 obtain⟨k0,k1,k2,k3,k4⟩:=id R
 go_wp2_with fail
 refine bodyPost_ret (v:=.agg #[.float .f64 d.1,.float .f64 d.2]) (by simp [results,Tryz.results16,go_sem, *]) rfl ⟨rfl, ?_⟩;repeat' (first | (with_reducible exact HB) | (with_reducible refine Below.setCell ?_ ?_ _) | go_size)
set_option maxHeartbeats 1000000 in
theorem sinh_core (x h u n v d m:Nat×Nat) (c1:∀w,Calls Tryz.prog 55 #[.float .f64 4602678819172646912] w fun e w'=>e=.returned (.agg #[.float .f64 h.1,.float .f64 h.2])∧Below w.heap.size w w') (c2:∀w,Calls Tryz.prog 13 #[.agg #[.float .f64 x.1,.float .f64 x.2]] w fun e w'=>e=.returned (.agg #[.float .f64 u.1,.float .f64 u.2])∧Below w.heap.size w w') (c3:∀w,Calls Tryz.prog 57 #[.agg #[.float .f64 x.1,.float .f64 x.2]] w fun e w'=>e=.returned (.agg #[.float .f64 n.1,.float .f64 n.2])∧Below w.heap.size w w') (c4:∀w,Calls Tryz.prog 13 #[.agg #[.float .f64 n.1,.float .f64 n.2]] w fun e w'=>e=.returned (.agg #[.float .f64 v.1,.float .f64 v.2])∧Below w.heap.size w w') (c5:∀w,Calls Tryz.prog 56 #[.agg #[.float .f64 u.1,.float .f64 u.2],.agg #[.float .f64 v.1,.float .f64 v.2]] w fun e w'=>e=.returned (.agg #[.float .f64 d.1,.float .f64 d.2])∧Below w.heap.size w w') (c6:∀w,Calls Tryz.prog 54 #[.agg #[.float .f64 h.1,.float .f64 h.2],.agg #[.float .f64 d.1,.float .f64 d.2]] w fun e w'=>e=.returned (.agg #[.float .f64 m.1,.float .f64 m.2])∧Below w.heap.size w w') (w:World):Calls Tryz.prog 20 #[.agg #[.float .f64 x.1,.float .f64 x.2]] w fun e w'=>e=.returned (.agg #[.float .f64 m.1,.float .f64 m.2])∧Below w.heap.size w w':=by
 obtain⟨X,R,HB⟩:=enter1 w (.float .f64 x.1) (.float .f64 x.2) 24
 go_enter Tryz.func20,Tryz.ntmps20
 go_upto_region 1 with fail
 generalize (w.alloc (.cells #[.float .f64 x.1,.float .f64 x.2] 24)).alloc (.cells #[.float .f64 0,.float .f64 0] 24)=V1 at *
 have kX0:=fun n:Behind V1=>n.cell X.1 X.2.2.2.2;have kX1:=fun n:Behind V1=>n.cell X.2.1 X.2.2.2.2
 refine tail_behind 8 (by kernel_rfl) (by kernel_rfl) ?_
 simp only [List.take_succ_cons,List.take_zero,List.drop_succ_cons,List.drop_zero]
 repeat (go_big_quiet_step (first | (go_at_call 55;with_reducible refine Behind.call (c1 _)) | (go_at_call 13;with_reducible refine Behind.call (c2 _)) | (go_at_call 57;with_reducible refine Behind.call (c3 _)) | (go_at_call 13;with_reducible refine Behind.call (c4 _)) | (go_at_call 56;with_reducible refine Behind.call (c5 _)) | (go_at_call 54;with_reducible refine Behind.call (c6 _))))
 refine wpQuiet_nil ?_
 rintro _ ⟨m',rfl⟩
 obtain⟨W,hb1⟩:=m'
 dsimp only
 clear kX0 kX1
 replace R:=R.keep hb1;replace HB:=later HB hb1;clear hb1
 obtain⟨k0,k1,k2,k3,k4⟩:=id R
 go_wp2_with fail
 refine bodyPost_ret (v:=.agg #[.float .f64 m.1,.float .f64 m.2]) (by simp [results,Tryz.results20,go_sem, *]) rfl ⟨rfl, ?_⟩;repeat' (first | (with_reducible exact HB) | (with_reducible refine Below.setCell ?_ ?_ _) | go_size)
set_option maxHeartbeats 1000000 in
theorem cosh_core (x h u n v d m:Nat×Nat) (c1:∀w,Calls Tryz.prog 55 #[.float .f64 4602678819172646912] w fun e w'=>e=.returned (.agg #[.float .f64 h.1,.float .f64 h.2])∧Below w.heap.size w w') (c2:∀w,Calls Tryz.prog 13 #[.agg #[.float .f64 x.1,.float .f64 x.2]] w fun e w'=>e=.returned (.agg #[.float .f64 u.1,.float .f64 u.2])∧Below w.heap.size w w') (c3:∀w,Calls Tryz.prog 57 #[.agg #[.float .f64 x.1,.float .f64 x.2]] w fun e w'=>e=.returned (.agg #[.float .f64 n.1,.float .f64 n.2])∧Below w.heap.size w w') (c4:∀w,Calls Tryz.prog 13 #[.agg #[.float .f64 n.1,.float .f64 n.2]] w fun e w'=>e=.returned (.agg #[.float .f64 v.1,.float .f64 v.2])∧Below w.heap.size w w') (c5:∀w,Calls Tryz.prog 61 #[.agg #[.float .f64 u.1,.float .f64 u.2],.agg #[.float .f64 v.1,.float .f64 v.2]] w fun e w'=>e=.returned (.agg #[.float .f64 d.1,.float .f64 d.2])∧Below w.heap.size w w') (c6:∀w,Calls Tryz.prog 54 #[.agg #[.float .f64 h.1,.float .f64 h.2],.agg #[.float .f64 d.1,.float .f64 d.2]] w fun e w'=>e=.returned (.agg #[.float .f64 m.1,.float .f64 m.2])∧Below w.heap.size w w') (w:World):Calls Tryz.prog 23 #[.agg #[.float .f64 x.1,.float .f64 x.2]] w fun e w'=>e=.returned (.agg #[.float .f64 m.1,.float .f64 m.2])∧Below w.heap.size w w':=by
 obtain⟨X,R,HB⟩:=enter1 w (.float .f64 x.1) (.float .f64 x.2) 24
 go_enter Tryz.func23,Tryz.ntmps23
 go_upto_region 1 with fail
 generalize (w.alloc (.cells #[.float .f64 x.1,.float .f64 x.2] 24)).alloc (.cells #[.float .f64 0,.float .f64 0] 24)=V1 at *
 have kX0:=fun n:Behind V1=>n.cell X.1 X.2.2.2.2;have kX1:=fun n:Behind V1=>n.cell X.2.1 X.2.2.2.2
 refine tail_behind 8 (by kernel_rfl) (by kernel_rfl) ?_
 simp only [List.take_succ_cons,List.take_zero,List.drop_succ_cons,List.drop_zero]
 repeat (go_big_quiet_step (first | (go_at_call 55;with_reducible refine Behind.call (c1 _)) | (go_at_call 13;with_reducible refine Behind.call (c2 _)) | (go_at_call 57;with_reducible refine Behind.call (c3 _)) | (go_at_call 13;with_reducible refine Behind.call (c4 _)) | (go_at_call 61;with_reducible refine Behind.call (c5 _)) | (go_at_call 54;with_reducible refine Behind.call (c6 _))))
 refine wpQuiet_nil ?_
 rintro _ ⟨m',rfl⟩
 obtain⟨W,hb1⟩:=m'
 dsimp only
 clear kX0 kX1
 replace R:=R.keep hb1;replace HB:=later HB hb1;clear hb1
 obtain⟨k0,k1,k2,k3,k4⟩:=id R
 go_wp2_with fail
 refine bodyPost_ret (v:=.agg #[.float .f64 m.1,.float .f64 m.2]) (by simp [results,Tryz.results23,go_sem, *]) rfl ⟨rfl, ?_⟩;repeat' (first | (with_reducible exact HB) | (with_reducible refine Below.setCell ?_ ?_ _) | go_size)
set_option maxHeartbeats 1000000 in
theorem tanh_core (x o t a f b q m:Nat×Nat) (c1:∀w,Calls Tryz.prog 55 #[.float .f64 4607182418800017408] w fun e w'=>e=.returned (.agg #[.float .f64 o.1,.float .f64 o.2])∧Below w.heap.size w w') (c2:∀w,Calls Tryz.prog 55 #[.float .f64 4611686018427387904] w fun e w'=>e=.returned (.agg #[.float .f64 t.1,.float .f64 t.2])∧Below w.heap.size w w') (c3:∀w,Calls Tryz.prog 61 #[.agg #[.float .f64 x.1,.float .f64 x.2],.agg #[.float .f64 x.1,.float .f64 x.2]] w fun e w'=>e=.returned (.agg #[.float .f64 a.1,.float .f64 a.2])∧Below w.heap.size w w') (c4:∀w,Calls Tryz.prog 13 #[.agg #[.float .f64 a.1,.float .f64 a.2]] w fun e w'=>e=.returned (.agg #[.float .f64 f.1,.float .f64 f.2])∧Below w.heap.size w w') (c5:∀w,Calls Tryz.prog 61 #[.agg #[.float .f64 f.1,.float .f64 f.2],.agg #[.float .f64 o.1,.float .f64 o.2]] w fun e w'=>e=.returned (.agg #[.float .f64 b.1,.float .f64 b.2])∧Below w.heap.size w w') (c6:∀w,Calls Tryz.prog 50 #[.agg #[.float .f64 t.1,.float .f64 t.2],.agg #[.float .f64 b.1,.float .f64 b.2]] w fun e w'=>e=.returned (.agg #[.float .f64 q.1,.float .f64 q.2])∧Below w.heap.size w w') (c7:∀w,Calls Tryz.prog 56 #[.agg #[.float .f64 o.1,.float .f64 o.2],.agg #[.float .f64 q.1,.float .f64 q.2]] w fun e w'=>e=.returned (.agg #[.float .f64 m.1,.float .f64 m.2])∧Below w.heap.size w w') (w:World):Calls Tryz.prog 25 #[.agg #[.float .f64 x.1,.float .f64 x.2]] w fun e w'=>e=.returned (.agg #[.float .f64 m.1,.float .f64 m.2])∧Below w.heap.size w w':=by
 obtain⟨X,R,HB⟩:=enter1 w (.float .f64 x.1) (.float .f64 x.2) 24
 go_enter Tryz.func25,Tryz.ntmps25
 go_upto_region 2 with (go_at_call 55;with_reducible refine (c1 _).mono ?_;rintro _ VV ⟨rfl,hb1⟩;replace X:=X.keep hb1;replace R:=R.keep hb1;replace HB:=later HB hb1;clear hb1)
 have D:Has2 (VV.alloc (.cells #[.float .f64 o.1,.float .f64 o.2] 24)) VV.heap.size (.float .f64 o.1) (.float .f64 o.2):=has2_new _ _ _ _
 have hb1:Below VV.heap.size VV (VV.alloc (.cells #[.float .f64 o.1,.float .f64 o.2] 24)):=by go_grown
 replace X:=X.keep hb1;replace R:=R.keep hb1;replace HB:=later HB hb1;clear hb1
 clear c1
 generalize VV.alloc (.cells #[.float .f64 o.1,.float .f64 o.2] 24)=V2 at *
 generalize VV.heap.size=d at *
 have kX0:=fun n:Behind V2=>n.cell X.1 X.2.2.2.2;have kX1:=fun n:Behind V2=>n.cell X.2.1 X.2.2.2.2;have kD0:=fun n:Behind V2=>n.cell D.1 D.2.2.2.2;have kD1:=fun n:Behind V2=>n.cell D.2.1 D.2.2.2.2
 refine tail_behind 10 (by kernel_rfl) (by kernel_rfl) ?_
 simp only [List.take_succ_cons,List.take_zero,List.drop_succ_cons,List.drop_zero]
 repeat (go_big_quiet_step (first | (go_at_call 55;with_reducible refine Behind.call (c2 _)) | (go_at_call 61;with_reducible refine Behind.call (c3 _)) | (go_at_call 13;with_reducible refine Behind.call (c4 _)) | (go_at_call 61;with_reducible refine Behind.call (c5 _)) | (go_at_call 50;with_reducible refine Behind.call (c6 _)) | (go_at_call 56;with_reducible refine Behind.call (c7 _))))
 refine wpQuiet_nil ?_
 rintro _ ⟨m',rfl⟩
 obtain⟨W,hb1⟩:=m'
 dsimp only
 clear kX0 kX1 kD0 kD1
 replace R:=R.keep hb1;replace HB:=later HB hb1;clear hb1
 obtain⟨k0,k1,k2,k3,k4⟩:=id R
 go_wp2_with fail
 refine bodyPost_ret (v:=.agg #[.float .f64 m.1,.float .f64 m.2]) (by simp [results,Tryz.results25,go_sem, *]) rfl ⟨rfl, ?_⟩;repeat' (first | (with_reducible exact HB) | (with_reducible refine Below.setCell ?_ ?_ _) | go_size)
def tanQ (x:Nat×Nat):Nat×Nat:=divQ (sinQ x) (cosQ x)
def sinhQ (x:Nat×Nat):Nat×Nat:=mulQ (ptQ 4602678819172646912) (subQ (expQ x) (expQ (negQ x)))
def coshQ (x:Nat×Nat):Nat×Nat:=mulQ (ptQ 4602678819172646912) (addQ (expQ x) (expQ (negQ x)))
def tanhQ (x:Nat×Nat):Nat×Nat:=subQ (ptQ 4607182418800017408) (divQ (ptQ 4611686018427387904) (addQ (expQ (addQ x x)) (ptQ 4607182418800017408)))
theorem cTan {x:Nat×Nat} (hx:W2 x) (w:World):Calls Tryz.prog 16 #[.agg #[.float .f64 x.1,.float .f64 x.2]] w fun e w'=>e=.returned (.agg #[.float .f64 (tanQ x).1,.float .f64 (tanQ x).2])∧Below w.heap.size w w':=tan_core x _ _ _ (fun w=>cSin hx w) (fun w=>cCos hx w) (fun w=>cDiv (waveQ_W2 hx 0) (waveQ_W2 hx 1) w) w
theorem cSinh {x:Nat×Nat} (hx:W2 x) (w:World):Calls Tryz.prog 20 #[.agg #[.float .f64 x.1,.float .f64 x.2]] w fun e w'=>e=.returned (.agg #[.float .f64 (sinhQ x).1,.float .f64 (sinhQ x).2])∧Below w.heap.size w w':=sinh_core x _ _ _ _ _ _ (fun w=>cPoint (by omega) w) (fun w=>cExp hx w) (fun w=>cNeg hx w) (fun w=>cExp (negQ_W2 hx) w) (fun w=>cSub (expQ_W2 hx) (expQ_W2 (negQ_W2 hx)) w) (fun w=>cMul (ptQ_W2 (by omega)) (subQ_W2 (expQ_W2 hx) (expQ_W2 (negQ_W2 hx))) w) w
theorem cCosh {x:Nat×Nat} (hx:W2 x) (w:World):Calls Tryz.prog 23 #[.agg #[.float .f64 x.1,.float .f64 x.2]] w fun e w'=>e=.returned (.agg #[.float .f64 (coshQ x).1,.float .f64 (coshQ x).2])∧Below w.heap.size w w':=cosh_core x _ _ _ _ _ _ (fun w=>cPoint (by omega) w) (fun w=>cExp hx w) (fun w=>cNeg hx w) (fun w=>cExp (negQ_W2 hx) w) (fun w=>cAdd (expQ_W2 hx) (expQ_W2 (negQ_W2 hx)) w) (fun w=>cMul (ptQ_W2 (by omega)) (addQ_W2 (expQ_W2 hx) (expQ_W2 (negQ_W2 hx))) w) w
theorem cTanh {x:Nat×Nat} (hx:W2 x) (w:World):Calls Tryz.prog 25 #[.agg #[.float .f64 x.1,.float .f64 x.2]] w fun e w'=>e=.returned (.agg #[.float .f64 (tanhQ x).1,.float .f64 (tanhQ x).2])∧Below w.heap.size w w':=tanh_core x _ _ _ _ _ _ _ (fun w=>cPoint (by omega) w) (fun w=>cPoint (by omega) w) (fun w=>cAdd hx hx w) (fun w=>cExp (addQ_W2 hx hx) w) (fun w=>cAdd (expQ_W2 (addQ_W2 hx hx)) (ptQ_W2 (by omega)) w) (fun w=>cDiv (ptQ_W2 (by omega)) (addQ_W2 (expQ_W2 (addQ_W2 hx hx)) (ptQ_W2 (by omega))) w) (fun w=>cSub (ptQ_W2 (by omega)) (divQ_W2 (ptQ_W2 (by omega)) (addQ_W2 (expQ_W2 (addQ_W2 hx hx)) (ptQ_W2 (by omega)))) w) w
theorem tanQ_W2 {x:Nat×Nat} (hx:W2 x):W2 (tanQ x):=divQ_W2 (waveQ_W2 hx 0) (waveQ_W2 hx 1)
theorem sinhQ_W2 {x:Nat×Nat} (hx:W2 x):W2 (sinhQ x):=mulQ_W2 (ptQ_W2 (by omega)) (subQ_W2 (expQ_W2 hx) (expQ_W2 (negQ_W2 hx)))
theorem coshQ_W2 {x:Nat×Nat} (hx:W2 x):W2 (coshQ x):=mulQ_W2 (ptQ_W2 (by omega)) (addQ_W2 (expQ_W2 hx) (expQ_W2 (negQ_W2 hx)))
theorem tanhQ_W2 {x:Nat×Nat} (hx:W2 x):W2 (tanhQ x):=subQ_W2 (ptQ_W2 (by omega)) (divQ_W2 (ptQ_W2 (by omega)) (addQ_W2 (expQ_W2 (addQ_W2 hx hx)) (ptQ_W2 (by omega))))
theorem refNext_w (x:Nat) (hx:x<18446744073709551616) (w:World) :
   Calls Tryz.prog 11 #[.float .f64 x] w fun e w'=>e=.returned (.float .f64 (nextB x))∧w=w':=by
 by_cases hn:nanB x=true
 · rw [nextB_nan hn]
   go_enter Tryz.func11,Tryz.ntmps11
   go_wp2_with (first | (go_at_call 41;refine (isNum_w x hx _).mono ?_;rintro _ _ ⟨rfl,rfl⟩))
   all_goals (go_ret;exact⟨rfl,rfl⟩)
 · have hn:nanB x=false:=by simpa using hn
   have hk:=nanB_key hx hn
   by_cases h:key x=9218868437227405312
   · have e:nextB x=x:=by unfold nextB;rw [hn,if_pos h];rfl
     rw [e]
     go_enter Tryz.func11,Tryz.ntmps11
     go_wp2_with (first | (go_at_call 41;refine (isNum_w x hx _).mono ?_;rintro _ _ ⟨rfl,rfl⟩) | (go_at_call 42;refine (index_w x hx _).mono ?_;rintro _ _ ⟨rfl,rfl⟩))
     all_goals (go_ret;exact⟨rfl,rfl⟩)
   · have e:nextB x=ofKey (key x+1):=by unfold nextB;rw [hn,if_neg h];rfl
     rw [e]
     have hat:=fun w=>at_w (key x+1) (by omega) (by omega) w
     have hix:=fun w=>index_w x hx w
     have h1:¬(9218868437227405311<key x):=by omega
     generalize key x=k at *
     go_enter Tryz.func11,Tryz.ntmps11
     go_wp2_with (first | (go_at_call 41;refine (isNum_w x hx _).mono ?_;rintro _ _ ⟨rfl,rfl⟩) | (go_at_call 42;refine (hix _).mono ?_;rintro _ _ ⟨rfl,rfl⟩) | (go_at_call 43;refine (hat _).mono ?_;rintro _ _ ⟨rfl,rfl⟩))
     all_goals (go_ret;exact⟨rfl,rfl⟩)
theorem mkPi:mkQ 4614256656552045848 4614256656552045849=(4614256656552045848,4614256656552045849):=by decide +kernel
theorem mkLn:mkQ 4604418534313441775 4604418534313441776=(4604418534313441775,4604418534313441776):=by decide +kernel
theorem mdPi (w:World):Calls Tryz.prog 5 #[] w fun e w'=>e=.returned (.agg #[.float .f64 (4614256656552045848,4614256656552045849).1,.float .f64 (4614256656552045848,4614256656552045849).2])∧Below w.heap.size w w':=by
 have h:=cPi w
 rw [mkPi] at h
 exact h
theorem mdLn (w:World):Calls Tryz.prog 7 #[] w fun e w'=>e=.returned (.agg #[.float .f64 (4604418534313441775,4604418534313441776).1,.float .f64 (4604418534313441775,4604418534313441776).2])∧Below w.heap.size w w':=by
 have h:=cLn2 w
 rw [mkLn] at h
 exact h
theorem mdNextP (w:World):Calls Tryz.prog 11 #[.float .f64 4614256656552045848] w fun e w'=>e=.returned (.float .f64 4614256656552045849)∧w=w':=by
 have h:=refNext_w 4614256656552045848 (by omega) w
 rw [show nextB 4614256656552045848=4614256656552045849 by decide +kernel] at h
 exact h
theorem mdNextL (w:World):Calls Tryz.prog 11 #[.float .f64 4604418534313441775] w fun e w'=>e=.returned (.float .f64 4604418534313441776)∧w=w':=by
 have h:=refNext_w 4604418534313441775 (by omega) w
 rw [show nextB 4604418534313441775=4604418534313441776 by decide +kernel] at h
 exact h
theorem cmp_le {a b:Nm} (h:decide (cmpZ (vz a) (vz b)≤0)=true):cmpZ (vz a) (vz b)≤0:=of_decide_eq_true h
theorem cmp_ge {a b:Nm} (h:decide (cmpZ (vz a) (vz b)≥0)=true):cmpZ (vz a) (vz b)≥0:=of_decide_eq_true h
theorem mdAboveP (w:World) (v:Value) (h:PI w v piX):Calls Tryz.prog 9 #[.float .f64 4614256656552045848,v] w fun r w'=>r=.returned (.bool true)∧Below w.heap.size w w' :=
 notAbove_m (num_m (fun w=>float_m 4614256656552045848 (by omega) (by decide +kernel) w) (by decide +kernel) (by decide +kernel)) (sm_of (by decide +kernel)) h (sm_of (by decide +kernel)) (cmp_le (by decide +kernel))
theorem mdBelowP (w:World) (v:Value) (h:PI w v piX):Calls Tryz.prog 10 #[.float .f64 4614256656552045849,v] w fun r w'=>r=.returned (.bool true)∧Below w.heap.size w w' :=
 notBelow_m (num_m (fun w=>float_m 4614256656552045849 (by omega) (by decide +kernel) w) (by decide +kernel) (by decide +kernel)) (sm_of (by decide +kernel)) h (sm_of (by decide +kernel)) (cmp_ge (by decide +kernel))
theorem mdAboveL (w:World) (v:Value) (h:PI w v lnX):Calls Tryz.prog 9 #[.float .f64 4604418534313441775,v] w fun r w'=>r=.returned (.bool true)∧Below w.heap.size w w' :=
 notAbove_m (num_m (fun w=>float_m 4604418534313441775 (by omega) (by decide +kernel) w) (by decide +kernel) (by decide +kernel)) (sm_of (by decide +kernel)) h (sm_of (by decide +kernel)) (cmp_le (by decide +kernel))
theorem mdBelowL (w:World) (v:Value) (h:PI w v lnX):Calls Tryz.prog 10 #[.float .f64 4604418534313441776,v] w fun r w'=>r=.returned (.bool true)∧Below w.heap.size w w' :=
 notBelow_m (num_m (fun w=>float_m 4604418534313441776 (by omega) (by decide +kernel) w) (by decide +kernel) (by decide +kernel)) (sm_of (by decide +kernel)) h (sm_of (by decide +kernel)) (cmp_ge (by decide +kernel))
theorem mdMake (a:Nat) (ha:a<18446744073709551616) (w:World):Calls Tryz.prog 12 #[.float .f64 a,.float .f64 a] w fun e w'=>e=.returned (.agg #[.float .f64 (ptQ a).1,.float .f64 (ptQ a).2])∧Below w.heap.size w w':=rmake_w a a ha ha w
theorem mdAdd {p q:Nat×Nat} (hp:W2 p) (hq:W2 q) (w:World):Calls Tryz.prog 24 #[.agg #[.float .f64 p.1,.float .f64 p.2],.agg #[.float .f64 q.1,.float .f64 q.2]] w fun e w'=>e=.returned (.agg #[.float .f64 (addQ p q).1,.float .f64 (addQ p q).2])∧Below w.heap.size w w':=rAdd_w p.1 p.2 q.1 q.2 hp.1 hp.2 hq.1 hq.2 w
theorem mdSub {p q:Nat×Nat} (hp:W2 p) (hq:W2 q) (w:World):Calls Tryz.prog 22 #[.agg #[.float .f64 p.1,.float .f64 p.2],.agg #[.float .f64 q.1,.float .f64 q.2]] w fun e w'=>e=.returned (.agg #[.float .f64 (subQ p q).1,.float .f64 (subQ p q).2])∧Below w.heap.size w w':=rSub_w p.1 p.2 q.1 q.2 hp.1 hp.2 hq.1 hq.2 w
theorem mdMul {p q:Nat×Nat} (hp:W2 p) (hq:W2 q) (w:World):Calls Tryz.prog 21 #[.agg #[.float .f64 p.1,.float .f64 p.2],.agg #[.float .f64 q.1,.float .f64 q.2]] w fun e w'=>e=.returned (.agg #[.float .f64 (mulQ p q).1,.float .f64 (mulQ p q).2])∧Below w.heap.size w w':=rMul_w p.1 p.2 q.1 q.2 hp.1 hp.2 hq.1 hq.2 w
theorem mdDiv {p q:Nat×Nat} (hp:W2 p) (hq:W2 q) (w:World):Calls Tryz.prog 17 #[.agg #[.float .f64 p.1,.float .f64 p.2],.agg #[.float .f64 q.1,.float .f64 q.2]] w fun e w'=>e=.returned (.agg #[.float .f64 (divQ p q).1,.float .f64 (divQ p q).2])∧Below w.heap.size w w':=rDiv_w p.1 p.2 q.1 q.2 hp.1 hp.2 hq.1 hq.2 w
theorem mdNeg {p:Nat×Nat} (hp:W2 p) (w:World):Calls Tryz.prog 14 #[.agg #[.float .f64 p.1,.float .f64 p.2]] w fun e w'=>e=.returned (.agg #[.float .f64 (negQ p).1,.float .f64 (negQ p).2])∧Below w.heap.size w w':=rNeg_w p.1 p.2 hp.1 hp.2 w
theorem mdSame {p:Nat×Nat} (hp:W2 p) (w:World):Calls Tryz.prog 15 #[.agg #[.float .f64 p.1,.float .f64 p.2],.agg #[.float .f64 p.1,.float .f64 p.2]] w fun e w'=>e=.returned (.bool true)∧Below w.heap.size w w':=rsame_self p.1 p.2 hp.1 hp.2 w
theorem made_pair {x:Nat×Nat} (hx:W2 x) (w:World) :
   Calls Tryz.prog 3 #[.agg #[.float .f64 x.1,.float .f64 x.2]] w fun r w'=>r=.returned (.bool true)∧Below w.heap.size w w':=by
 have hn:=negQ_W2 hx
 have hu:=expQ_W2 hx
 have hd:=expQ_W2 hn
 have ho:=ptQ_W2 (a:=4607182418800017408) (by omega)
 have ht:=ptQ_W2 (a:=4611686018427387904) (by omega)
 have hh:=ptQ_W2 (a:=4602678819172646912) (by omega)
 have hs:=waveQ_W2 hx 0
 have hc:=waveQ_W2 hx 1
 have ha:=addQ_W2 hx hx
 have he:=expQ_W2 ha
 have hb:=addQ_W2 he ho
 exact made_core (p1:=(4614256656552045848,4614256656552045849)) (p2:=(4604418534313441775,4604418534313441776)) (P:=piX) (L:=lnX)
   mdPi mdLn rpi_w rln2_w mdAboveP mdBelowP mdNextP mdAboveL mdBelowL mdNextL (by decide +kernel) (by decide +kernel)
   (fun w=>mdMake _ (by omega) w) (fun w=>mdMake _ (by omega) w) (fun w=>mdMake _ (by omega) w)
   (fun w=>cExp hx w) (fun w=>mdNeg hx w) (fun w=>cExp hn w)
   (fun w=>cTan hx w) (fun w=>cSin hx w) (fun w=>cCos hx w) (fun w=>mdDiv hs hc w) (fun w=>mdSame (tanQ_W2 hx) w)
   (fun w=>cSinh hx w) (fun w=>mdSub hu hd w) (fun w=>mdMul hh (subQ_W2 hu hd) w) (fun w=>mdSame (sinhQ_W2 hx) w)
   (fun w=>cCosh hx w) (fun w=>mdAdd hu hd w) (fun w=>mdMul hh (addQ_W2 hu hd) w) (fun w=>mdSame (coshQ_W2 hx) w)
   (fun w=>cTanh hx w) (fun w=>mdAdd hx hx w) (fun w=>cExp ha w) (fun w=>mdAdd he ho w) (fun w=>mdDiv ht hb w) (fun w=>mdSub ho (divQ_W2 ht hb) w) (fun w=>mdSame (tanhQ_W2 hx) w) w
theorem elemMade_w (l u:Nat) (hl:l<18446744073709551616) (hu:u<18446744073709551616) (w:World) :
   Calls Tryz.prog 3 #[.agg #[.float .f64 l,.float .f64 u]] w fun r w'=>r=.returned (.bool true)∧Below w.heap.size w w':=made_pair (x:=(l,u)) ⟨hl,hu⟩ w
theorem cellsIval:Tryz.prog.cellsOf 24=2:=by kernel_rfl
theorem cellsFloat:Tryz.prog.cellsOf 22=1:=by kernel_rfl
theorem f64_lt {b:Nat} (h:(Lit.float .f64 b).wf=true):b<18446744073709551616:=by simpa [Lit.wf] using h
theorem f64_wf {b:Nat} (h:b<18446744073709551616):(Lit.float .f64 b).wf=true:=by simpa [Lit.wf] using h
theorem trod_float {H:Type} {enc:TypeId×Value→H} {W:World} {base:Nat} {sp:Nat→Bool} {held:Bool} {m:Nat} {c:Value} {y:DataW H×List MemPlace} (h:DataW.trod enc Tryz.prog W base sp held m 22 [c]=some y) :
   ∃b,c=.float .f64 b∧y=(.lit (.float .f64 b),[])∧b<18446744073709551616:=by
 have ht:=Tryz.underlying22
 cases m with
 | zero=>simp [DataW.trod] at h
 | succ n =>
   cases c <;> simp [DataW.trod,ht] at h
   rename_i k b
   obtain⟨⟨rfl,h1⟩,h2⟩:=h
   exact⟨b,rfl,h2.symm,f64_lt h1⟩
set_option maxRecDepth 100000 in
theorem open_ival {H:Type} {enc:TypeId×Value→H} {W:World} {base:Nat} {sp:Nat→Bool} {held:Bool} {r:Reach} {b0:Nat} {v:Value} {d:DataW H} {ps:List MemPlace} (hval:Value.okWide Tryz.prog W r b0 24 v)
   (hd:DataW.Trod enc Tryz.prog W base sp held 24 v d ps):∃lo hi,v=.agg #[.float .f64 lo,.float .f64 hi]∧d=.agg [.lit (.float .f64 lo),.lit (.float .f64 hi)]∧ps=[]∧lo<18446744073709551616∧hi<18446744073709551616:=by
 obtain⟨cs,rfl,hsz⟩:=okWide_struct Tryz.underlying24 hval
 rw [cellsIval] at hsz
 obtain⟨l⟩:=cs
 match l,hsz with
 | [c0,c1],_ =>
 obtain⟨fuel,hf⟩:=hd
 obtain⟨y0,y1,m,hx,_,hy0,hy1⟩:=trod_struct2 Tryz.underlying24 hf
 simp only [Value.cells,cellsFloat] at hy0 hy1
 obtain⟨lo,rfl,rfl,w0⟩:=trod_float hy0
 obtain⟨hi,rfl,rfl,w1⟩:=trod_float hy1
 simp only [Prod.mk.injEq] at hx
 obtain⟨rfl,rfl⟩:=hx
 exact⟨lo,hi,rfl,rfl,rfl,w0,w1⟩
set_option maxRecDepth 100000 in
theorem shut_ival {H:Type} {enc:TypeId×Value→H} {W:World} {sp:Nat→Bool} {held:Bool} {base lo hi:Nat} (hl:lo<18446744073709551616) (hh:hi<18446744073709551616) :
   DataW.Trod enc Tryz.prog W base sp held 24 (.agg #[.float .f64 lo,.float .f64 hi]) (.agg [.lit (.float .f64 lo),.lit (.float .f64 hi)]) []:=⟨2,by
 have wl:=f64_wf hl
 have wh:=f64_wf hh
 have f0:DataW.trod enc Tryz.prog W base sp held 1 22 [.float .f64 lo]=some (.lit (.float .f64 lo),[]):=by simp [DataW.trod,Tryz.underlying22,wl]
 have f1:DataW.trod enc Tryz.prog W base sp held 1 22 [.float .f64 hi]=some (.lit (.float .f64 hi),[]):=by simp [DataW.trod,Tryz.underlying22,wh]
 have:=trod_struct2_mk (enc:=enc) (w:=W) (base:=base) (spare:=sp) (held:=held) (n:=1) (cs:=[.float .f64 lo,.float .f64 hi]) Tryz.underlying24 (by simp [cellsIval]) (by simpa [cellsFloat] using f0) (by simpa [cellsFloat] using f1)
 simpa [Value.cells] using this⟩
end Go.Proofs.YtopfabemfbdccaaGreat
namespace Go.Proofs.YtopfabemfbdccaaGreat.elemMade
open Go.ChangeShapes Go.WideShapes Go.ChangeAt Go.RowKit
theorem own:ownKnob Tryz.prog.godebug=none:=by kernel_rfl
set_option maxRecDepth 100000 in
theorem lifted (os:Os) (started:os.Started) (H:Type) (enc:TypeId×Value→H) :
   ReturnsInHanded {} Tryz.checked os 3 .any (Rows.elemMadeSpec.pre6 enc Tryz.prog Tryz.f3 Rows.elemMadeRow.domain false) (Rows.elemMadeSpec.post enc Tryz.prog Tryz.f3 false true false false):=by
 refine returnsInHanded_of_change (C:=Tryz.checked) own started (by kernel_rfl) Tryz.func3
   (ChangeSpec.witness6 (enc:=enc) (C:=Tryz.checked) false ⟨#[],#[.agg #[.float .f64 0,.float .f64 0]],[]⟩ 8 (by kernel_rfl) (by kernel_rfl) (by kernel_rfl) (by kernel_rfl)) ?_
 intro W base args ds gs before hval0 hW hcnd _
 have hval:∀(j:Nat) t v,Tryz.f3.params[j]?=some t→args[j]?=some v→Value.okWide Tryz.prog W .any base t v:=hval0
 have hW':=hW
 obtain⟨p,q,hA0,hV,rfl,hfz,hnd⟩:=hW
 have hA:DataW.TrodAll enc Tryz.prog W 0 (fun _=>true) true Tryz.f3.params.toList args.toList ds p:=hA0
 rw [Tryz.params3] at hA hval
 obtain⟨v0,vs0,d0,ds0,p0,q0,hargs,rfl,rfl,h0,r0⟩:=trodAll_cons hA
 obtain⟨rfl,rfl,rfl⟩:=trodAll_nil r0
 obtain rfl:args=#[v0]:=by cases args;simp_all
 obtain⟨rfl,rfl⟩:=trodVars_none hV
 obtain⟨l0,u0,rfl,rfl,rfl,wl0,wu0⟩:=open_ival (hval 0 24 v0 rfl rfl) h0
 clear hA0 hval0
 simp only [List.append_nil] at hW'
 refine (elemMade_w l0 u0 wl0 wu0 W).mono fun e W' ⟨he,bel⟩=>?_
 subst he
 exact⟨_,rfl,_,_,_,[],[],[],hW',trodAll_mk1 (shut_bool Tryz.underlying4 _),(trodAll_cons_mk (shut_ival wl0 wu0) trodAll_mk0),rfl,bel.frame _,fun h=>by cases h⟩
end Go.Proofs.YtopfabemfbdccaaGreat.elemMade
